/-
  Contracts of tree's roleOf, rolesOf.
-/
import Derived.Test.YtplgaenfcaphnaaTreeQ
import Derived.BigRegion
import Derived.Deep.LoopGhost
namespace Go.Proofs.Ytplgaenfcaphnaa.LanP
open Go.RowKit Go.Sort Go.Proofs.Ytplgaenfcaphnaa.SliceP Go.Proofs.Ytplgaenfcaphnaa.BoxP
open Go.Proofs.Ytplgaenfcaphnaa.IntP (RowI SlI OwnI)
open Go.Proofs.Ytplgaenfcaphnaa.BoolP (RowB SlB OwnB)
open Go.Proofs.Ytplgaenfcaphnaa.MacP (arr_out)
set_option linter.unusedVariables false
set_option maxRecDepth 100000
/-- A row, and where it lies. -/
structure RwP (α : Type) where
  l : List α
  A : Option Addr
  c : Nat
def RwP.cells {α : Type} (x : RwP α) : List Value := [.slice x.A x.l.length x.c]
theorem wholeR {α : Type} (l : List (RwP α)) : Whole 1 (l.map RwP.cells) := fun cs hc => by
  obtain ⟨x, _, rfl⟩ := List.mem_map.1 hc
  exact ⟨rfl, fun u hu => by simp [RwP.cells] at hu; subst hu; rfl⟩
theorem elI : ElemT Try.prog 43 3 1 := IntP.elI
theorem elRI : ElemT Try.prog 30 43 1 := ElemT.mk' (z := .slice none 0 0) (bytes := 24) Try.underlying30 (by kernel_rfl) (by decide) rfl (by decide)
theorem zv_int (w : World) : (zeroValue 3).run Try.prog w = .ok (.int .i64 0) w := by kernel_rfl
/-- Rows of rows. -/
structure RowL {α : Type} (g : α → List Value) (w : World) (A : Option Addr) (n c : Nat) (ls : List (List α)) : Prop where
  len : n = ls.length
  cap : n ≤ c
  nil : A = none → c = 0
  mx : c ≤ 9223372036854775807
  ex : ∃ rs : List (RwP α), ls = rs.map RwP.l ∧ Sl w 1 A (rs.map RwP.cells) ∧ ∀ x ∈ rs, Row g 1 w x.A x.l.length x.c x.l
theorem RowL.below {α : Type} {g : α → List Value} {w w' : World} {A : Option Addr} {n c : Nat} {ls : List (List α)} (h : RowL g w A n c ls) (hb : Below w.heap.size w w') : RowL g w' A n c ls := ⟨h.len, h.cap, h.nil, h.mx, by
  obtain ⟨rs, e, hs, hi⟩ := h.ex
  exact ⟨rs, e, Sl.below hs hb, fun x hx => (hi x hx).below hb⟩⟩
theorem RowL.at_ {α : Type} {g : α → List Value} {w : World} {A : Option Addr} {n c : Nat} {ls : List (List α)} (h : RowL g w A n c ls) {k : Nat} {r : List α} (hk : ls[k]? = some r) : ∃ b o A' c', A = some ⟨b, o, none⟩ ∧ b < w.heap.size ∧ w.cell? ⟨b, o + k, none⟩ = some (.slice A' r.length c') ∧ Row g 1 w A' r.length c' r := by
  obtain ⟨rs, rfl, hs, hi⟩ := h.ex
  rw [List.getElem?_map] at hk
  obtain ⟨x, hx, rfl⟩ := Option.map_eq_some_iff.1 hk
  obtain ⟨b, o, rfl, hb, hc⟩ := Sl.at_ hs (k := k) (cs := x.cells) (by rw [List.getElem?_map, hx]; rfl)
  refine ⟨b, o, x.A, x.c, rfl, hb, ?_, hi x (List.mem_of_getElem? hx)⟩
  have := hc 0 _ rfl
  rwa [Nat.mul_one, Nat.add_zero] at this
theorem RowL.new {α : Type} {g : α → List Value} {w : World} {B : Nat} {e : TypeId} {A : Option Addr} {n c : Nat} {rs : List (RwP α)} (h : Own w B e 1 (.slice A n c) (rs.map RwP.cells)) (hi : ∀ x ∈ rs, Row g 1 w x.A x.l.length x.c x.l) : RowL g w A n c (rs.map RwP.l) := by
  have r := Row.own (g := RwP.cells) h (by decide)
  exact ⟨by rw [List.length_map]; exact r.len, r.cap, r.nil, r.mx, rs, rfl, r.sl, hi⟩
def roleV (u o r : Bool) : Int := if u = true then (if o = true then 1 else if r = true then 0 else 2) else 3
theorem o_roleof (u o r : Bool) (w : World) : Calls Try.prog 49 #[.bool u, .bool o, .bool r] w fun e w' => e = .returned (.int .i64 (roleV u o r)) ∧ w = w' := by
  cases u <;> cases o <;> cases r <;>
  ( go_enter Try.func49, Try.ntmps49
    go_wp2_with fail
    go_ret
    exact ⟨rfl, rfl⟩)
theorem role_is {l : L} {b k : Nat} (hb : b < l.plans.length) (hk : k < (pl l b).ports.length) : roleV (prt l b k).up (decide ((ow l (prt l b k).seg).1 = (b : Int)) && decide ((ow l (prt l b k).seg).2 = (k : Int))) (decide ((k : Int) = rootN l b)) = roleT l b k := by
  unfold roleV roleT
  cases hu : (prt l b k).up with
  | false => rfl
  | true =>
    rw [if_pos rfl, if_pos rfl]
    obtain ⟨q, hq⟩ := own_some (l := l) (s := (prt l b k).seg) (p := (b, k)) (mem_onS.2 ⟨hb, hk, hu, rfl⟩)
    rw [ow_some hq, hq]
    have e1 : ((decide ((nz q).1 = (b : Int)) && decide ((nz q).2 = (k : Int))) = true) ↔ some q = some (b, k) := by
      obtain ⟨q1, q2⟩ := q
      unfold nz
      simp only [Bool.and_eq_true, decide_eq_true_eq, Option.some.injEq, Prod.mk.injEq]
      omega
    have e2 : (decide ((k : Int) = rootN l b) = true) ↔ rootT l b = some k := by
      unfold rootN
      cases hr : rootT l b with
      | none => simp
      | some m => simp; omega
    by_cases h1 : some q = some (b, k)
    · rw [if_pos (e1.2 h1), if_pos h1]
    · rw [if_neg (fun h => h1 (e1.1 h)), if_neg h1]
      by_cases h2 : rootT l b = some k
      · rw [if_pos (e2.2 h2), if_pos h2]
      · rw [if_neg (fun h => h2 (e2.1 h)), if_neg h2]
def rolesB (l : L) (b : Nat) : List Int := (List.range (pl l b).ports.length).map (roleT l b)
def L.roles (l : L) : List (List Int) := (List.range l.plans.length).map (rolesB l)
def rolesK (l : L) (b m j : Nat) : List Int := (List.range m).map fun k => if k < j then roleT l b k else 0
theorem rolesK_zero (l : L) (b m : Nat) : rolesK l b m 0 = List.replicate m 0 := by
  unfold rolesK
  apply List.ext_getElem?
  intro i
  rw [List.getElem?_map, List.getElem?_replicate]
  by_cases h : i < m
  · rw [if_pos h, List.getElem?_range h]; simp
  · rw [if_neg h, List.getElem?_eq_none (by simp; omega)]; rfl
theorem rolesK_len (l : L) (b m j : Nat) : (rolesK l b m j).length = m := by unfold rolesK; simp
theorem rolesK_succ (l : L) (b m j : Nat) (h : j < m) : (rolesK l b m j).set j (roleT l b j) = rolesK l b m (j + 1) := by
  apply List.ext_getElem?
  intro i
  rw [List.getElem?_set]
  unfold rolesK
  rw [List.getElem?_map, List.getElem?_map]
  by_cases hi : i < m
  · rw [List.getElem?_range hi]
    by_cases e : j = i
    · subst e; rw [if_pos rfl, if_pos (by simpa using h)]; simp
    · rw [if_neg e]
      simp only [Option.map_some]
      congr 1
      by_cases h2 : i < j
      · rw [if_pos h2, if_pos (by omega)]
      · rw [if_neg h2, if_neg (by omega)]
  · rw [List.getElem?_eq_none (by simp; omega)]
    by_cases e : j = i
    · omega
    · rw [if_neg e]; rfl
theorem rolesK_all (l : L) (b : Nat) : rolesK l b (pl l b).ports.length (pl l b).ports.length = rolesB l b := by
  unfold rolesK rolesB
  refine List.map_congr_left fun k hk => ?_
  rw [if_pos (List.mem_range.1 hk)]
def rolesTo (l : L) (b : Nat) : List (List Int) := (List.range b).map (rolesB l)
theorem rolesTo_succ (l : L) (b : Nat) : rolesTo l (b + 1) = rolesTo l b ++ [rolesB l b] := by unfold rolesTo; rw [List.range_succ, List.map_append]; rfl
set_option maxHeartbeats 32000000 in
theorem o_rolesof {l : L} {A : Option Addr} {c : Nat} {B : Option Addr} {d : Nat} {w : World} (hr : LanR w l A c B d) (hs : Small l) (ho : l.ok = true) :
    Calls Try.prog 28 #[lv l A c B d] w fun en w' => ∃ A' c', en = .returned (.slice A' l.roles.length c') ∧ RowL ic w' A' l.roles.length c' l.roles ∧ (∀ a, A' = some a → w.heap.size ≤ a.block) ∧ Below w.heap.size w w' := by
  have HL := Lib.hid hr
  have H := Lib.hid hr.plans
  have HS := Lib.hid hs
  have HO := Lib.hid ho
  have hn8 := hs.plans
  have hsg := ok_segs ho
  have hs8 : l.segs ≤ 8 := hsg.2.1
  obtain ⟨n, hn⟩ : ∃ n, l.n = n := ⟨_, rfl⟩
  have hseg : l.segs = (n : Int) := by rw [← hn]; exact hsg.2.2.symm
  have hn9 : n ≤ 8 := by omega
  replace hseg := Lib.hid hseg
  obtain ⟨w0, hw0, X0, R0, B0⟩ := new3 w hr
  have hBE := Lib.hid (o_bests R0 hs ho)
  replace X0 := Lib.hid X0
  replace B0 := Lib.hid B0
  clear hr hs R0 ho hsg
  go_enter Try.func28, Try.ntmps28
  go_upto_region 1 with fail
  rw [← hw0]
  clear hw0
  have x0 := X0.out.c (i := 0) rfl
  have x1 := X0.out.c (i := 1) rfl
  have x2 := X0.out.c (i := 2) rfl
  have zx := X0.out.lt
  go_upto_region 2 with (go_at_call 26; (with_reducible refine hBE.out.mono ?_); rintro en w1 ⟨AI, cI, rfl, oI, hb1⟩; replace oI := Lib.hid oI; replace hb1 := Lib.hid hb1)
  have RI := Lib.hid (Row.own oI.out (by decide) : Row hc 2 w1 AI l.bs.length cI l.bs)
  have X1 := Lib.hid (X0.out.below hb1.out)
  have B1 := Lib.hid (bt B0.out hb1.out)
  clear hb1 oI x0 x1 x2 zx hBE X0
  obtain ⟨g4, hg4⟩ : ∃ g, g = w1.heap.size := ⟨_, rfl⟩
  obtain ⟨w2, hw2⟩ : ∃ W, W = w1.alloc (.cells #[.int .i64 0, .int .i64 0, .int .i64 0, .int .i64 0, .int .i64 0, .int .i64 0, .int .i64 0, .int .i64 0, .int .i64 0, .int .i64 0, .int .i64 0, .int .i64 0, .int .i64 0, .int .i64 0, .int .i64 0, .int .i64 0] 98) := ⟨_, rfl⟩
  have bb2 : Below w1.heap.size w1 w2 := by rw [hw2]; exact (Below.refl _ _).alloc (Nat.le_refl _) _
  have Y2 := Lib.hid (show Bx w2 g4 98 (A16 (owF l 0)) by rw [hw2, hg4, owF_zero]; exact Bx.new _ _ _ rfl)
  have X2 := Lib.hid (X1.out.below bb2)
  have B2 := Lib.hid (bt B1.out bb2)
  have RI2 := Lib.hid (RI.out.below bb2)
  have hg2 := Lib.hid (show w.heap.size < g4 by rw [hg4]; exact X1.out.lt)
  have bi := Lib.hid bb2
  go_upto_region 3 with fail
  rw [← hw2, ← hg4]
  clear hw2 X1 bb2
  replace hg4 := Lib.hid hg4
  have x0 := X2.out.c (i := 0) rfl
  have zx := X2.out.lt
  go_wp2_with fail
  clear x0 zx
  go_loopw [18] (fun i wr => ∃ k : Nat, k ≤ n ∧ i = .int .i64 k ∧ Bx wr g4 98 (A16 (owF l k)) ∧ Bx wr w.heap.size 25 (lc l A c B d) ∧ Below w1.heap.size w1 wr) (fun i _ => n - (intOf i).toNat)
  case atStart => exact ⟨0, by omega, rfl, Y2.out, X2.out, bi.out⟩
  case round =>
    clear Y2 X2 RI2 B2 bi
    obtain ⟨k, hk, rfl, hY, hX, hb⟩ := hrel
    obtain ⟨wo, hwo⟩ : ∃ W, W = wr := ⟨_, rfl⟩
    subst hwo
    by_cases hkn : k < n
    · have hkl : (k : Int) < l.segs := by have := hseg.out; omega
      have hk8 : (k : Int) < 8 := by omega
      have hwy : whyI l (k : Int) = 0 := by unfold whyI; rw [if_pos HO.out, if_pos ⟨by omega, hkl⟩]
      have hOW := Lib.hid (fun (W : World) (hW : Below wo.heap.size wo W) => o_ownof (HL.out.below (bt B1.out (bt hb hW))) HS.out HO.out (RI.out.below (bt hb hW)) hwy)
      obtain ⟨⟨q1, q2⟩, hq⟩ : ∃ q, ow l (k : Int) = q := ⟨_, rfl⟩
      obtain ⟨isS, hisS⟩ : ∃ q, (ownS l (k : Int)).isSome = q := ⟨_, rfl⟩
      rw [hq, hisS] at hOW
      have hsu := Lib.hid (show upd (upd (owF l k) (k * 2) q1) (k * 2 + 1) q2 = owF l (k + 1) by have := owF_succ l k; rw [hq] at this; exact this)
      replace hq := Lib.hid hq
      replace hisS := Lib.hid hisS
      replace hwy := Lib.hid hwy
      have x0 := hX.c (i := 0) rfl
      have x1 := hX.c (i := 1) rfl
      have x2 := hX.c (i := 2) rfl
      have zx := hX.lt
      have YY := Lib.hid hY
      have XX := Lib.hid hX
      have bb := Lib.hid hb
      clear hY hX hb
      go_wp2_with fail
      go_at_call 29
      (with_reducible refine (hOW.out _ (Below.refl _ _)).mono ?_)
      rintro en w3 ⟨rfl, hb3⟩
      have Y3 := Lib.hid (YY.out.below hb3)
      have X3 := Lib.hid (XX.out.below hb3)
      have b3 := Lib.hid (bt bb.out hb3)
      clear hb3 YY XX bb x0 x1 x2 zx hOW
      have c0 := Y3.out.c (A16_get (owF l k) (show k * 2 < 16 by omega))
      have c1 := Y3.out.c (A16_get (owF l k) (show k * 2 + 1 < 16 by omega))
      have f0 := Y3.out.f (k * 2)
      have f1 := Y3.out.f (k * 2 + 1)
      have z3 := Y3.out.lt
      go_wp2_with fail
      obtain ⟨w4, hw4⟩ : ∃ W, W = (w3.setCell ⟨g4, k * 2, none⟩ (.int .i64 q1)).setCell ⟨g4, k * 2 + 1, none⟩ (.int .i64 q2) := ⟨_, rfl⟩
      have Y4 := Lib.hid (show Bx w4 g4 98 (A16 (owF l (k + 1))) by
        rw [hw4, ← hsu.out]
        have := (Y3.out.set (k * 2) (.int .i64 q1)).set (k * 2 + 1) (.int .i64 q2)
        rw [A16_set _ (by omega), A16_set _ (by omega)] at this
        exact this)
      have X4 := Lib.hid (show Bx w4 w.heap.size 25 (lc l A c B d) by rw [hw4]; exact (X3.out.other (by have := hg2.out; omega) _ _).other (by have := hg2.out; omega) _ _)
      have b4 := Lib.hid (show Below w1.heap.size w1 w4 by rw [hw4]; exact (b3.out.setCell (by rw [hg4.out]; exact Nat.le_refl _) _).setCell (by rw [hg4.out]; exact Nat.le_refl _) _)
      rw [← hw4]
      clear hw4 c0 c1 f0 f1 z3 Y3 X3 b3
      go_roundw
      case rel => exact ⟨k + 1, by omega, by go_num, Y4.out, X4.out, b4.out⟩
      case measure => simp [intOf]; omega
    · obtain rfl : k = n := by omega
      have hge : ¬ ((k : Int) < l.segs) := by have := hseg.out; omega
      have YY := Lib.hid hY
      have XX := Lib.hid hX
      have bb := Lib.hid hb
      have x1 := hX.c (i := 1) rfl
      have zx := hX.lt
      clear hY hX hb
      go_wp2_with fail
      obtain ⟨bz, hbz0⟩ : ∃ b, b = wo.heap.size := ⟨_, rfl⟩
      have hgz := Lib.hid (show w.heap.size < bz ∧ g4 < bz by rw [hbz0]; exact ⟨XX.out.lt, YY.out.lt⟩)
      replace hbz0 := Lib.hid hbz0
      have Hwo := Lib.hid (H.out.below (bt B1.out bb.out))
      clear hge
      go_loopw [6, 34] (fun v i wr => ∃ (b : Nat) (rs : List (RwP Int)), b ≤ l.plans.length ∧ i = .int .i64 b ∧ rs.map RwP.l = rolesTo l b ∧ Own wr bz 43 1 v (rs.map RwP.cells) ∧ (∀ x ∈ rs, Own wr bz 3 1 (.slice x.A x.l.length x.c) (x.l.map ic)) ∧ bz ≤ wr.heap.size ∧ Bx wr g4 98 (A16 (owF l k)) ∧ Bx wr w.heap.size 25 (lc l A c B d) ∧ Below wo.heap.size wo wr) (fun _ i _ => l.plans.length - (intOf i).toNat)
      case atStart => exact ⟨0, [], by omega, rfl, rfl, Own.nil _ _ _ _, (fun x hx => by cases hx), by rw [hbz0.out]; exact Nat.le_refl _, YY.out, XX.out, Below.refl _ _⟩
      case round =>
        clear YY XX
        obtain ⟨b, rs, hk9, rfl, hL, hown, hin, hsz, hY, hX, hb⟩ := hrel
        obtain ⟨wi, hwi⟩ : ∃ W, W = wr := ⟨_, rfl⟩
        subst hwi
        obtain ⟨A3, c3, hv3⟩ := own_form hown
        subst hv3
        have hlenL := Lib.hid (show rs.length ≤ 100 by have := congrArg List.length hL; rw [List.length_map] at this; unfold rolesTo at this; rw [List.length_map, List.length_range] at this; omega)
        by_cases hbn : b < l.plans.length
        · have hbl : (b : Int) < (l.plans.length : Int) := by omega
          obtain ⟨p, hp⟩ : ∃ p, l.plans[b]? = some p := ⟨_, List.getElem?_eq_getElem hbn⟩
          obtain ⟨bS8, oS8, A8, c8, hAS8, hbS8, q8_0, q8_1, hrow8⟩ := RowP.at_ (Hwo.out.below hb) hp
          subst hAS8
          obtain ⟨w8, hw8⟩ : ∃ W, W = wi.alloc (.cells #[.int .i64 p.id, .slice A8 p.ports.length c8] 61) := ⟨_, rfl⟩
          have bb8 : Below wi.heap.size wi w8 := by rw [hw8]; exact (Below.refl _ _).alloc (Nat.le_refl _) _
          have b8 := Lib.hid (bt hb bb8)
          have X8 := Lib.hid (show Bx w8 wi.heap.size 61 #[.int .i64 p.id, .slice A8 p.ports.length c8] by rw [hw8]; exact Bx.new _ _ _ rfl)
          have R8 := Lib.hid (hrow8.below bb8)
          clear hrow8
          have hpp := Lib.hid (show pl l b = p by have := plan_get hbn; rw [hp] at this; exact (Option.some.inj this).symm)
          have hpm := Lib.hid (show p ∈ l.plans from List.mem_of_getElem? hp)
          have hpl := HS.out.ports p hpm.out
          have own8 := Lib.hid (hown.below bb8)
          have in8 := Lib.hid (fun x hx => (hin x hx).below bb8)
          have X8l := Lib.hid (hX.below bb8)
          have Y8l := Lib.hid (hY.below bb8)
          have hsz8 := Lib.hid (Nat.le_trans hsz bb8.size)
          replace hL := Lib.hid hL
          clear hown hin hX hY hsz
          replace hp := Lib.hid hp
          clear hb bb8
          go_upto_region 12 with fail
          rw [← hw8]
          clear hw8 q8_0 q8_1 hbS8
          have o8_0 := X8.out.c (i := 0) rfl
          have o8_1 := X8.out.c (i := 1) rfl
          have zz8 := X8.out.lt
          have hRP := Lib.hid (show ∀ (W : World), Below w8.heap.size w8 W → Calls Try.prog 48 #[lv l (some ⟨bS8, oS8, none⟩) c B d, .slice AI l.bs.length cI, .agg #[.int .i64 (owF l k 0), .int .i64 (owF l k 1), .int .i64 (owF l k 2), .int .i64 (owF l k 3), .int .i64 (owF l k 4), .int .i64 (owF l k 5), .int .i64 (owF l k 6), .int .i64 (owF l k 7), .int .i64 (owF l k 8), .int .i64 (owF l k 9), .int .i64 (owF l k 10), .int .i64 (owF l k 11), .int .i64 (owF l k 12), .int .i64 (owF l k 13), .int .i64 (owF l k 14), .int .i64 (owF l k 15)], .int .i64 b] W (fun en w' => en = .returned (.int .i64 (rootN l b)) ∧ Below W.heap.size W w') from fun W hW => by
            have h9 := o_rootport (HL.out.below (bt B1.out (bt bb.out (bt b8.out hW)))) HS.out HO.out (RI.out.below (bt bb.out (bt b8.out hW))) hbn
            rw [hn] at h9
            exact h9)
          have x0 := X8l.out.c (i := 0) rfl
          have x1 := X8l.out.c (i := 1) rfl
          have x2 := X8l.out.c (i := 2) rfl
          have zx := X8l.out.lt
          have e0 := Y8l.out.c (i := 0) (v := .int .i64 (owF l k 0)) rfl
          have e1 := Y8l.out.c (i := 1) (v := .int .i64 (owF l k 1)) rfl
          have e2 := Y8l.out.c (i := 2) (v := .int .i64 (owF l k 2)) rfl
          have e3 := Y8l.out.c (i := 3) (v := .int .i64 (owF l k 3)) rfl
          have e4 := Y8l.out.c (i := 4) (v := .int .i64 (owF l k 4)) rfl
          have e5 := Y8l.out.c (i := 5) (v := .int .i64 (owF l k 5)) rfl
          have e6 := Y8l.out.c (i := 6) (v := .int .i64 (owF l k 6)) rfl
          have e7 := Y8l.out.c (i := 7) (v := .int .i64 (owF l k 7)) rfl
          have e8 := Y8l.out.c (i := 8) (v := .int .i64 (owF l k 8)) rfl
          have e9 := Y8l.out.c (i := 9) (v := .int .i64 (owF l k 9)) rfl
          have e10 := Y8l.out.c (i := 10) (v := .int .i64 (owF l k 10)) rfl
          have e11 := Y8l.out.c (i := 11) (v := .int .i64 (owF l k 11)) rfl
          have e12 := Y8l.out.c (i := 12) (v := .int .i64 (owF l k 12)) rfl
          have e13 := Y8l.out.c (i := 13) (v := .int .i64 (owF l k 13)) rfl
          have e14 := Y8l.out.c (i := 14) (v := .int .i64 (owF l k 14)) rfl
          have e15 := Y8l.out.c (i := 15) (v := .int .i64 (owF l k 15)) rfl
          have ze := Y8l.out.lt
          go_wp2_with fail
          go_at_call 48
          (with_reducible refine (hRP.out _ (Below.refl _ _)).mono ?_)
          rintro en w9 ⟨rfl, hb9⟩
          clear x0 x1 x2 zx ze e0 e1 e2 e3 e4 e5 e6 e7 e8 e9 e10 e11 e12 e13 e14 e15 hRP o8_0 o8_1 zz8
          obtain ⟨w10, hmk, hbk, hb10, hs10⟩ := run_make_blk (P := Try.prog) w9 43 elI zv_int (size := 1) rfl p.ports.length (by omega)
          obtain ⟨gR, hgR⟩ : ∃ g, g = w9.heap.size := ⟨_, rfl⟩
          rw [← hgR] at hmk hbk
          replace hgR := Lib.hid hgR
          have oR := Lib.hid (show Own w10 gR 3 1 (.slice (some ⟨gR, 0, none⟩) p.ports.length p.ports.length) ((rolesK l b p.ports.length 0).map ic) by rw [rolesK_zero]; exact blk_own hbk rfl (fun u hu => by simp at hu; subst hu; rfl) (by omega))
          have own9 := Lib.hid (own8.out.below hb9)
          have in9 := Lib.hid (fun x hx => (in8.out x hx).below hb9)
          have X9 := Lib.hid (X8l.out.below hb9)
          have Y9 := Lib.hid (Y8l.out.below hb9)
          have P9 := Lib.hid (X8.out.below hb9)
          have R9 := Lib.hid (R8.out.below hb9)
          have b9 := Lib.hid (bt b8.out hb9)
          have hsz9 := Lib.hid (Nat.le_trans hsz8.out hb9.size)
          have bK := Lib.hid (show Below w9.heap.size w9 w10 from hb10)
          have p1 := P9.out.c (i := 1) rfl
          have zp := P9.out.lt
          clear hbk hs10 hb9 own8 in8 X8l Y8l X8 R8 b8 hsz8
          go_upto_region 14 with fail
          clear p1 zp hmk
          have p1 := (P9.out.below hb10).c (i := 1) rfl
          have zp := (P9.out.below hb10).lt
          clear hb10
          go_wp2_with fail
          clear p1 zp
          go_loopw [51] (fun i wk => ∃ j : Nat, j ≤ p.ports.length ∧ i = .int .i64 j ∧ Own wk gR 3 1 (.slice (some ⟨gR, 0, none⟩) p.ports.length p.ports.length) ((rolesK l b p.ports.length j).map ic) ∧ Below w9.heap.size w9 wk) (fun i _ => p.ports.length - (intOf i).toNat)
          case atStart => exact ⟨0, by omega, rfl, oR.out, bK.out⟩
          case round =>
            clear oR bK
            obtain ⟨j, hj, rfl, hoR, hb⟩ := hrel
            obtain ⟨wj, hwj⟩ : ∃ W, W = wr := ⟨_, rfl⟩
            subst hwj
            by_cases hjn : j < p.ports.length
            · have hjl : (j : Int) < (p.ports.length : Int) := by omega
              obtain ⟨y, hy⟩ : ∃ y, p.ports[j]? = some y := ⟨_, List.getElem?_eq_getElem hjn⟩
              obtain ⟨bS7, oS7, hAS7, hbS7, q7_0, q7_1, q7_2⟩ := Row.kat (R9.out.below hb) hy
              subst hAS7
              obtain ⟨w7, hw7⟩ : ∃ W, W = wj.alloc (.cells #[.int .i64 y.seg, .int .i64 y.cost, .bool y.up] 63) := ⟨_, rfl⟩
              have bb7 : Below wj.heap.size wj w7 := by rw [hw7]; exact (Below.refl _ _).alloc (Nat.le_refl _) _
              have b7 := Lib.hid (bt hb bb7)
              have X7 := Lib.hid (show Bx w7 wj.heap.size 63 #[.int .i64 y.seg, .int .i64 y.cost, .bool y.up] by rw [hw7]; exact Bx.new _ _ _ rfl)
              have oR7 := Lib.hid (hoR.below bb7)
              have hyo := Lib.hid (ok_lk HO.out p hpm.out y (List.mem_of_getElem? hy))
              have hpy := Lib.hid (show prt l b j = y by have h9 := ports_get (l := l) (b := b) (k := j) (by rw [hpp.out]; exact hjn); rw [hpp.out, hy] at h9; exact (Option.some.inj h9).symm)
              clear hoR
              replace hy := Lib.hid hy
              clear hb bb7
              go_upto_region 17 with fail
              rw [← hw7]
              clear hw7 q7_0 q7_1 q7_2 hbS7
              have o7_0 := X7.out.c (i := 0) rfl
              have o7_1 := X7.out.c (i := 1) rfl
              have o7_2 := X7.out.c (i := 2) rfl
              have zz7 := X7.out.lt
              obtain ⟨sN, hsN⟩ : ∃ n : Nat, y.seg = n := ⟨y.seg.toNat, by have := hyo.out; omega⟩
              have hsl : sN < k := by have := hyo.out; have := hseg.out; omega
              have hs9 : (sN : Int) < 8 := by omega
              obtain ⟨f0, f1⟩ := owF_at (l := l) hsl
              have Y7 := Lib.hid (Y9.out.below b7.out)
              have a0 := Y7.out.c (A16_get (owF l k) (show sN * 2 < 16 by omega))
              have a1 := Y7.out.c (A16_get (owF l k) (show sN * 2 + 1 < 16 by omega))
              rw [f0] at a0
              rw [f1] at a1
              have z4 := Y7.out.lt
              rw [hsN] at o7_0
              obtain ⟨⟨q1, q2⟩, hq⟩ : ∃ q, ow l (sN : Int) = q := ⟨_, rfl⟩
              rw [hq] at a0 a1
              have hqq := eq_pair q1 q2 (b : Int) (j : Int)
              obtain ⟨isO, hO⟩ : ∃ o, (decide (q1 = (b : Int)) && decide (q2 = (j : Int))) = o := ⟨_, rfl⟩
              rw [hO] at hqq
              obtain ⟨isR, hR⟩ : ∃ o, ((j : Int) == rootN l b) = o := ⟨_, rfl⟩
              have hR2 : decide ((j : Int) = rootN l b) = isR := hR
              have hRole := Lib.hid (show roleV y.up isO isR = roleT l b j by
                have h9 := role_is (l := l) (b := b) (k := j) hbn (by rw [hpp.out]; exact hjn)
                rw [hpy.out, hsN, hq] at h9
                rw [← hO, ← hR2]; exact h9)
              have hRO := Lib.hid (fun (W : World) => o_roleof y.up isO isR W)
              replace hsN := Lib.hid hsN
              replace hq := Lib.hid hq
              replace hO := Lib.hid hO
              replace hR2 := Lib.hid hR2
              clear f0 f1
              go_upto_region 18 with fail
              clear a0 a1 z4 hqq
              obtain ⟨v0, hv0⟩ : ∃ v, (rolesK l b p.ports.length j)[j]? = some v := ⟨_, List.getElem?_eq_getElem (by rw [rolesK_len]; exact hjn)⟩
              have rc := own_cell oR7.out (by decide) (j := j) (cs := ic v0) (by rw [List.getElem?_map, hv0]; rfl) (v := .int .i64 v0) (i := 0) rfl
              rw [Nat.mul_one, Nat.add_zero] at rc
              have rf := (own_free oR7.out j).1
              have rz := (own_free oR7.out j).2
              replace hv0 := Lib.hid hv0
              go_wp2_with (go_at_call 49; (with_reducible refine (hRO.out _).mono ?_); rintro en w6 ⟨rfl, rfl⟩)
              obtain ⟨w5, hw5⟩ : ∃ W, W = w7.setCell ⟨gR, j, none⟩ (.int .i64 (roleV y.up isO isR)) := ⟨_, rfl⟩
              have oR5 := Lib.hid (show Own w5 gR 3 1 (.slice (some ⟨gR, 0, none⟩) p.ports.length p.ports.length) ((rolesK l b p.ports.length (j + 1)).map ic) by
                rw [hw5, hRole.out, ← rolesK_succ l b p.ports.length j hjn, List.map_set]
                exact own_put1 oR7.out (by rw [List.length_map, rolesK_len]; exact hjn) rfl)
              have b5 := Lib.hid (show Below w9.heap.size w9 w5 by rw [hw5]; exact b7.out.setCell (by rw [hgR.out]; exact Nat.le_refl _) _)
              rw [← hw5]
              clear hw5 rc rf rz o7_0 o7_1 o7_2 zz7
              go_roundw
              case rel => exact ⟨j + 1, by omega, by go_num, oR5.out, b5.out⟩
              case measure => simp [intOf]; omega
            · obtain rfl : j = p.ports.length := by omega
              have own7 := Lib.hid (own9.out.below hb)
              have in7 := Lib.hid (fun x hx => (in9.out x hx).below hb)
              have X7 := Lib.hid (X9.out.below hb)
              have Y7 := Lib.hid (Y9.out.below hb)
              have b7 := Lib.hid (bt b9.out hb)
              have hsz7 := Lib.hid (Nat.le_trans hsz9.out hb.size)
              have hge7 := Lib.hid (show bz ≤ gR by rw [hgR.out]; exact hsz9.out)
              have oR7 := Lib.hid (show Own wj gR 3 1 (.slice (some ⟨gR, 0, none⟩) p.ports.length p.ports.length) ((rolesB l b).map ic) by rw [← rolesK_all, hpp.out]; exact hoR)
              clear hoR hb own9 in9 X9 Y9 b9 hsz9 R9 P9
              have hrl : (rolesB l b).length = p.ports.length := by unfold rolesB; rw [List.length_map, List.length_range, hpp.out]
              have hcl := Lib.hid (show RwP.cells ⟨rolesB l b, some ⟨gR, 0, none⟩, p.ports.length⟩ = [.slice (some ⟨gR, 0, none⟩) p.ports.length p.ports.length] by unfold RwP.cells; rw [hrl])
              replace hrl := Lib.hid hrl
              obtain ⟨w9', hw9'⟩ : ∃ W, W = wj.alloc (.cells #[.slice (some ⟨gR, 0, none⟩) p.ports.length p.ports.length] 43) := ⟨_, rfl⟩
              have bq : Below wj.heap.size wj w9' := by rw [hw9']; exact (Below.refl _ _).alloc (Nat.le_refl _) _
              have hsl := Lib.hid (show Sl w9' 1 (some ⟨wj.heap.size, 0, none⟩) ([RwP.mk (rolesB l b) (some ⟨gR, 0, none⟩) p.ports.length].map RwP.cells) from bx_sl (T := 43) (vals := #[.slice (some ⟨gR, 0, none⟩) p.ports.length p.ports.length]) (by rw [hw9']; exact Bx.new _ _ _ rfl) (by show _ = (RwP.cells _ ++ []); rw [hcl.out]; rfl) (by intro cc hcc; simp at hcc; subst hcc; rfl))
              have ownq := Lib.hid (own7.out.below bq)
              have hn1 : Hid ((rs.map RwP.cells).length + ([RwP.mk (rolesB l b) (some ⟨gR, 0, none⟩) p.ports.length].map RwP.cells).length ≤ 1000000) := Lib.hid (by rw [List.length_map]; have := hlenL.out; simp; omega)
              have hvl : Hid ((rs.map RwP.cells).length = rs.length) := Lib.hid (by rw [List.length_map])
              have hB2 : Hid (bz ≤ w9'.heap.size) := Lib.hid (Nat.le_trans hsz7.out bq.size)
              have inq := Lib.hid (fun x hx => (in7.out x hx).below bq)
              have oRq := Lib.hid (oR7.out.below bq)
              have Xq := Lib.hid (X7.out.below bq)
              have Yq := Lib.hid (Y7.out.below bq)
              have bbq := Lib.hid (bt b7.out bq)
              clear bq
              go_wp2_with (at_builtin; rw [← hw9']; (refine wpList_append_sl rfl (.tmp 75) (.tmp 77) 30 rfl elRI (by rfl) ownq.out (by rfl) (by rfl) hsl.out (wholeR _) (fun h => by cases h) hn1.out hB2.out ?_); intro v' w4 own1 grow1 _)
              have hlo : ∀ j, (Value.slice A3 rs.length c3).ownBlock = some j → bz ≤ j := fun j hj => And.left (ownq.out.lt j hj)
              have b4 : Below wo.heap.size wo w4 := bbq.out.grown grow1 bbq.out.size (fun j hj => by have := hlo j hj; rw [hbz0.out] at this; exact this)
              have hX4 := Xq.out.grown grow1 (fun e => by have := hlo _ e.symm; have := hgz.out; omega)
              have hY4 := Yq.out.grown grow1 (fun e => by have := hlo _ e.symm; have := hgz.out; omega)
              have hin4 : ∀ x ∈ rs ++ [RwP.mk (rolesB l b) (some ⟨gR, 0, none⟩) p.ports.length], Own w4 bz 3 1 (.slice x.A x.l.length x.c) (x.l.map ic) := fun x hx => by
                rcases List.mem_append.1 hx with hx | hx
                · exact (inq.out x hx).kept grow1 (by
                    cases hob : (Value.slice x.A x.l.length x.c).ownBlock with
                    | none => exact .inl rfl
                    | some q => exact .inr (fun e => own_ne (inq.out x hx) ownq.out (by decide) q hob e.symm))
                · obtain rfl := List.mem_singleton.1 hx
                  show Own w4 bz 3 1 (.slice (some ⟨gR, 0, none⟩) (rolesB l b).length p.ports.length) ((rolesB l b).map ic)
                  rw [hrl.out]
                  have h9 := oRq.out.base hge7.out
                  exact h9.kept grow1 (.inr (fun e => own_ne h9 ownq.out (by decide) gR rfl e.symm))
              have hL4 : (rs ++ [RwP.mk (rolesB l b) (some ⟨gR, 0, none⟩) p.ports.length]).map RwP.l = rolesTo l (b + 1) := by rw [List.map_append, hL.out, rolesTo_succ]; rfl
              have hsz4 := Nat.le_trans hB2.out grow1.size
              clear grow1
              go_roundw
              case rel => exact ⟨b + 1, _, by omega, by go_num, hL4, own_snoc own1, hin4, hsz4, hY4, hX4, b4⟩
              case measure => simp [intOf]; omega
        · obtain rfl : b = l.plans.length := by omega
          have hLL : rs.map RwP.l = l.roles := hL
          have hRL := Lib.hid (RowL.new (g := ic) hown (fun x hx => Row.own (hin x hx) (by decide)))
          rw [hLL] at hRL
          have hlen9 : rs.length = l.roles.length := by rw [← hLL, List.length_map]
          have hbW := Lib.hid (bt B1.out (bt bb.out hb))
          have hfar := Lib.hid (show ∀ a, A3 = some a → w.heap.size ≤ a.block from fun a ha => by have := (own_far hown a ha).1; have := hgz.out; omega)
          replace hlen9 := Lib.hid hlen9
          replace hL := Lib.hid hL
          clear hown hin hsz hY hX hb hLL
          go_wp2_with fail
          go_ret
          exact ⟨A3, c3, by rw [← hlen9.out]; rfl, by rw [← hlen9.out] at *; exact hRL.out, hfar.out, hbW.out⟩
end Go.Proofs.Ytplgaenfcaphnaa.LanP

/-
  Contracts of tree's check, Best, Roles.
-/
namespace Go.Proofs.Ytplgaenfcaphnaa.LanP
open Go.RowKit Go.Sort Go.Proofs.Ytplgaenfcaphnaa.SliceP Go.Proofs.Ytplgaenfcaphnaa.BoxP
open Go.Proofs.Ytplgaenfcaphnaa.IntP (RowI SlI OwnI)
open Go.Proofs.Ytplgaenfcaphnaa.BoolP (RowB SlB OwnB)
open Go.Proofs.Ytplgaenfcaphnaa.MacP (arr_out)
set_option linter.unusedVariables false
set_option maxRecDepth 100000
def whyP (l : L) (p e : Int) : Int := if l.ok = true then (if 0 ≤ p ∧ p < e then 0 else 3) else 1
set_option maxHeartbeats 4000000 in
theorem o_check16 {l : L} {A : Option Addr} {c : Nat} {B : Option Addr} {d : Nat} {w : World} (hr : LanR w l A c B d) (hs : Small l) (p e : Int) {r : Int} (he : whyP l p e = r) :
    Calls Try.prog 25 #[lv l A c B d, .int .i64 p, .int .i64 e] w fun en w' => en = .returned (.int .i64 r) ∧ Below w.heap.size w w' := by
  unfold whyP at he
  cases ho : l.ok
  · rw [ho, if_neg (by simp)] at he
    subst he
    obtain ⟨w0, hw0, X0, R0, B0⟩ := new3 w hr
    have hR := Lib.hid (o_right R0 hs ho)
    replace X0 := Lib.hid X0
    replace B0 := Lib.hid B0
    clear hr hs R0
    go_enter Try.func25, Try.ntmps25
    go_upto_region 1 with fail
    rw [← hw0]
    clear hw0
    have x0 := X0.out.c (i := 0) rfl
    have x1 := X0.out.c (i := 1) rfl
    have x2 := X0.out.c (i := 2) rfl
    have zx := X0.out.lt
    go_wp2_with fail
    go_at_call 27
    (with_reducible refine hR.out.mono ?_)
    rintro en w1 ⟨rfl, hb1⟩
    have B1 := Lib.hid (bt B0.out hb1)
    clear hb1 x0 x1 x2 zx
    go_wp2_with fail
    go_ret
    exact ⟨rfl, B1.out⟩
  · rw [ho, if_pos rfl] at he
    by_cases h0 : p < 0
    · rw [if_neg (by omega)] at he
      subst he
      obtain ⟨w0, hw0, X0, R0, B0⟩ := new3 w hr
      have hR := Lib.hid (o_right R0 hs ho)
      replace X0 := Lib.hid X0
      replace B0 := Lib.hid B0
      clear hr hs R0
      go_enter Try.func25, Try.ntmps25
      go_upto_region 1 with fail
      rw [← hw0]
      clear hw0
      have x0 := X0.out.c (i := 0) rfl
      have x1 := X0.out.c (i := 1) rfl
      have x2 := X0.out.c (i := 2) rfl
      have zx := X0.out.lt
      go_wp2_with fail
      go_at_call 27
      (with_reducible refine hR.out.mono ?_)
      rintro en w1 ⟨rfl, hb1⟩
      have B1 := Lib.hid (bt B0.out hb1)
      clear hb1 x0 x1 x2 zx
      go_wp2_with fail
      go_ret
      exact ⟨rfl, B1.out⟩
    · by_cases h1 : p < e
      · rw [if_pos ⟨by omega, h1⟩] at he
        subst he
        have h2 : ¬ e ≤ p := by omega
        obtain ⟨w0, hw0, X0, R0, B0⟩ := new3 w hr
        have hR := Lib.hid (o_right R0 hs ho)
        replace X0 := Lib.hid X0
        replace B0 := Lib.hid B0
        clear hr hs R0
        go_enter Try.func25, Try.ntmps25
        go_upto_region 1 with fail
        rw [← hw0]
        clear hw0
        have x0 := X0.out.c (i := 0) rfl
        have x1 := X0.out.c (i := 1) rfl
        have x2 := X0.out.c (i := 2) rfl
        have zx := X0.out.lt
        go_wp2_with fail
        go_at_call 27
        (with_reducible refine hR.out.mono ?_)
        rintro en w1 ⟨rfl, hb1⟩
        have B1 := Lib.hid (bt B0.out hb1)
        clear hb1 x0 x1 x2 zx
        go_wp2_with fail
        go_ret
        exact ⟨rfl, B1.out⟩
      · rw [if_neg (by omega)] at he
        subst he
        have h2 : e ≤ p := by omega
        obtain ⟨w0, hw0, X0, R0, B0⟩ := new3 w hr
        have hR := Lib.hid (o_right R0 hs ho)
        replace X0 := Lib.hid X0
        replace B0 := Lib.hid B0
        clear hr hs R0
        go_enter Try.func25, Try.ntmps25
        go_upto_region 1 with fail
        rw [← hw0]
        clear hw0
        have x0 := X0.out.c (i := 0) rfl
        have x1 := X0.out.c (i := 1) rfl
        have x2 := X0.out.c (i := 2) rfl
        have zx := X0.out.lt
        go_wp2_with fail
        go_at_call 27
        (with_reducible refine hR.out.mono ?_)
        rintro en w1 ⟨rfl, hb1⟩
        have B1 := Lib.hid (bt B0.out hb1)
        clear hb1 x0 x1 x2 zx
        go_wp2_with fail
        go_ret
        exact ⟨rfl, B1.out⟩
set_option maxHeartbeats 4000000 in
theorem o_best_no {l : L} {A : Option Addr} {c : Nat} {B : Option Addr} {d : Nat} {w : World} (hr : LanR w l A c B d) (hs : Small l) (p : Int) {er : Int} (he : whyP l p l.plans.length = er) (h0 : er ≠ 0) :
    Calls Try.prog 8 #[lv l A c B d, .int .i64 p] w fun en w' => en = .returned (.tuple #[.int .i64 0, .int .i64 0, .int .i64 er]) ∧ Below w.heap.size w w' := by
  have hne : (er != 0) = true := by simpa using h0
  replace h0 := Lib.hid h0
  obtain ⟨w0, hw0, X0, R0, B0⟩ := new3 w hr
  have hR := Lib.hid (o_check16 R0 hs p l.plans.length he)
  replace X0 := Lib.hid X0
  replace B0 := Lib.hid B0
  clear hr hs R0
  go_enter Try.func8, Try.ntmps8
  go_upto_region 1 with fail
  rw [← hw0]
  clear hw0
  have x0 := X0.out.c (i := 0) rfl
  have x1 := X0.out.c (i := 1) rfl
  have x2 := X0.out.c (i := 2) rfl
  have zx := X0.out.lt
  go_wp2_with fail
  go_at_call 25
  (with_reducible refine hR.out.mono ?_)
  rintro en w1 ⟨rfl, hb1⟩
  have B1 := Lib.hid (bt B0.out hb1)
  clear hb1 x0 x1 x2 zx
  go_wp2_with fail
  refine bodyPost_ret (v := .tuple #[.int .i64 0, .int .i64 0, .int .i64 er]) (by simp [results, Try.results8, go_sem]) rfl ⟨rfl, B1.out⟩
set_option maxHeartbeats 8000000 in
theorem o_best_ok {l : L} {A : Option Addr} {c : Nat} {B : Option Addr} {d : Nat} {w : World} (hr : LanR w l A c B d) (hs : Small l) (ho : l.ok = true) {b : Nat} (hb : b < l.plans.length) :
    Calls Try.prog 8 #[lv l A c B d, .int .i64 b] w fun en w' => en = .returned (.tuple #[.int .i64 (l.best b).1, .int .i64 (l.best b).2, .int .i64 0]) ∧ Below w.heap.size w w' := by
  have he : whyP l b l.plans.length = 0 := by unfold whyP; rw [if_pos ho, if_pos ⟨by omega, by omega⟩]
  have hbb := Lib.hid (bs_get hb)
  have HS := Lib.hid hs
  have HO := Lib.hid ho
  have hbl : (b : Int) < (l.bs.length : Int) := by rw [bs_len]; omega
  have hn9 : l.bs.length ≤ 8 := by rw [bs_len]; have := hs.plans; omega
  obtain ⟨w0, hw0, X0, R0, B0⟩ := new3 w hr
  have hR := Lib.hid (o_check16 R0 hs b l.plans.length he)
  have hBE := Lib.hid (fun (W : World) (hW : Below w0.heap.size w0 W) => o_bests (R0.below hW) HS.out HO.out)
  replace he := Lib.hid he
  replace X0 := Lib.hid X0
  replace B0 := Lib.hid B0
  clear hr hs R0
  go_enter Try.func8, Try.ntmps8
  go_upto_region 1 with fail
  rw [← hw0]
  clear hw0
  have x0 := X0.out.c (i := 0) rfl
  have x1 := X0.out.c (i := 1) rfl
  have x2 := X0.out.c (i := 2) rfl
  have zx := X0.out.lt
  go_wp2_with fail
  go_at_call 25
  (with_reducible refine hR.out.mono ?_)
  rintro en w1 ⟨rfl, hb1⟩
  have B1 := Lib.hid (bt B0.out hb1)
  have X1 := Lib.hid (X0.out.below hb1)
  have hBE1 := Lib.hid (hBE.out w1 hb1)
  clear hb1 x0 x1 x2 zx hBE
  have x0 := X1.out.c (i := 0) rfl
  have x1 := X1.out.c (i := 1) rfl
  have x2 := X1.out.c (i := 2) rfl
  have zx := X1.out.lt
  go_wp2_with fail
  go_at_call 26
  (with_reducible refine hBE1.out.mono ?_)
  rintro en w2 ⟨AI, cI, rfl, oI, hb2⟩
  have RI : Row hc 2 w2 AI l.bs.length cI l.bs := Row.own oI (by decide)
  obtain ⟨bI, oI', hCC, hbI, r0, r1⟩ := Row.hat RI hbb.out
  subst hCC
  have B2 := Lib.hid (bt B1.out hb2)
  clear x0 x1 x2 zx oI RI hb2
  obtain ⟨y, hy⟩ : ∃ y, l.best b = y := ⟨_, rfl⟩
  rw [hy] at r0 r1
  replace hy := Lib.hid hy
  obtain ⟨w3, hw3⟩ : ∃ W, W = w2.alloc (.cells #[.int .i64 y.1, .int .i64 y.2] 33) := ⟨_, rfl⟩
  have bb3 : Below w2.heap.size w2 w3 := by rw [hw3]; exact (Below.refl _ _).alloc (Nat.le_refl _) _
  have Y3 := Lib.hid (show Bx w3 w2.heap.size 33 #[.int .i64 y.1, .int .i64 y.2] by rw [hw3]; exact Bx.new _ _ _ rfl)
  have B3 := Lib.hid (bt B2.out bb3)
  clear bb3
  go_upto_region 5 with fail
  rw [← hw3]
  clear hw3 r0 r1 hbI
  have y0 := Y3.out.c (i := 0) rfl
  have y1 := Y3.out.c (i := 1) rfl
  have zy := Y3.out.lt
  go_region
  go_wp2_with fail
  refine bodyPost_ret (v := .tuple #[.int .i64 y.1, .int .i64 y.2, .int .i64 0]) (by simp [results, Try.results8, go_sem]) rfl ⟨by rw [hy.out], B3.out.drew⟩
set_option maxHeartbeats 4000000 in
theorem o_roles_no {l : L} {A : Option Addr} {c : Nat} {B : Option Addr} {d : Nat} {w : World} (hr : LanR w l A c B d) (hs : Small l) (ho : l.ok = false) :
    Calls Try.prog 9 #[lv l A c B d] w fun en w' => en = .returned (.tuple #[.slice none 0 0, .int .i64 1]) ∧ Below w.heap.size w w' := by
  obtain ⟨w0, hw0, X0, R0, B0⟩ := new3 w hr
  have hR := Lib.hid (o_right R0 hs ho)
  replace X0 := Lib.hid X0
  replace B0 := Lib.hid B0
  clear hr hs R0
  go_enter Try.func9, Try.ntmps9
  go_upto_region 1 with fail
  rw [← hw0]
  clear hw0
  have x0 := X0.out.c (i := 0) rfl
  have x1 := X0.out.c (i := 1) rfl
  have x2 := X0.out.c (i := 2) rfl
  have zx := X0.out.lt
  go_wp2_with fail
  go_at_call 27
  (with_reducible refine hR.out.mono ?_)
  rintro en w1 ⟨rfl, hb1⟩
  have B1 := Lib.hid (bt B0.out hb1)
  clear hb1 x0 x1 x2 zx
  go_wp2_with fail
  go_ret2
  exact ⟨rfl, B1.out⟩
set_option maxHeartbeats 4000000 in
theorem o_roles_ok {l : L} {A : Option Addr} {c : Nat} {B : Option Addr} {d : Nat} {w : World} (hr : LanR w l A c B d) (hs : Small l) (ho : l.ok = true) :
    Calls Try.prog 9 #[lv l A c B d] w fun en w' => ∃ A' c', en = .returned (.tuple #[.slice A' l.roles.length c', .int .i64 0]) ∧ RowL ic w' A' l.roles.length c' l.roles ∧ (∀ a, A' = some a → w.heap.size ≤ a.block) ∧ Below w.heap.size w w' := by
  have HS := Lib.hid hs
  obtain ⟨w0, hw0, X0, R0, B0⟩ := new3 w hr
  have hR := Lib.hid (o_right R0 hs ho)
  have hRO := Lib.hid (fun (W : World) (hW : Below w0.heap.size w0 W) => o_rolesof (R0.below hW) HS.out ho)
  replace X0 := Lib.hid X0
  replace B0 := Lib.hid B0
  clear hr hs R0
  go_enter Try.func9, Try.ntmps9
  go_upto_region 1 with fail
  rw [← hw0]
  clear hw0
  have x0 := X0.out.c (i := 0) rfl
  have x1 := X0.out.c (i := 1) rfl
  have x2 := X0.out.c (i := 2) rfl
  have zx := X0.out.lt
  go_wp2_with fail
  go_at_call 27
  (with_reducible refine hR.out.mono ?_)
  rintro en w1 ⟨rfl, hb1⟩
  have B1 := Lib.hid (bt B0.out hb1)
  have X1 := Lib.hid (X0.out.below hb1)
  have hRO1 := Lib.hid (hRO.out w1 hb1)
  clear hb1 x0 x1 x2 zx hRO
  have x0 := X1.out.c (i := 0) rfl
  have x1 := X1.out.c (i := 1) rfl
  have x2 := X1.out.c (i := 2) rfl
  have zx := X1.out.lt
  go_wp2_with fail
  go_at_call 28
  (with_reducible refine hRO1.out.mono ?_)
  rintro en w2 ⟨A2, c2, rfl, r2, f2, hb2⟩
  have R2 := Lib.hid r2
  have F2 := Lib.hid (show ∀ a, A2 = some a → w.heap.size ≤ a.block from fun a ha => Nat.le_trans B1.out.size (f2 a ha))
  have B2 := Lib.hid (bt B1.out hb2)
  clear r2 f2 hb2 x0 x1 x2 zx
  go_wp2_with fail
  go_ret2
  exact ⟨A2, c2, rfl, R2.out, F2.out, B2.out⟩
end Go.Proofs.Ytplgaenfcaphnaa.LanP
