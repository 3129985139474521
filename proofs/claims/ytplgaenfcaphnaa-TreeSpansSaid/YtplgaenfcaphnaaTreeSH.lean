/-
  Contracts of footwaylaw16's shaped.
-/
import Derived.Test.YtplgaenfcaphnaaTreeY
import Derived.BigRegion
import Derived.Deep.LoopGhost
import Derived.Test.YtplgaenfcaphnaaTreeV
namespace Go.Proofs.Ytplgaenfcaphnaa.LanP
open Go.RowKit Go.Sort Go.Proofs.Ytplgaenfcaphnaa.SliceP Go.Proofs.Ytplgaenfcaphnaa.BoxP
open Go.Proofs.Ytplgaenfcaphnaa.IntP (RowI SlI OwnI)
open Go.Proofs.Ytplgaenfcaphnaa.BoolP (RowB SlB OwnB)
open Go.Proofs.Ytplgaenfcaphnaa.MacP (arr_out)
set_option linter.unusedVariables false
set_option maxRecDepth 100000
set_option maxHeartbeats 8000000 in
theorem sh_bool {l : L} {A : Option Addr} {c : Nat} {B : Option Addr} {d : Nat} {w : World} {C : Option Addr} {e : Nat} {ls : List (List Bool)} (hr : LanR w l A c B d) (hs : Small l) (hR : RowL bc w C ls.length e ls) (hl : ls.length = l.plans.length) (hrow : ∀ (b : Nat) r, ls[b]? = some r → r.length = (pl l b).ports.length) :
    Calls Try.prog 18 #[lv l A c B d, .slice C ls.length e] w fun en w' => en = .returned (.bool true) ∧ Below w.heap.size w w' := by
  have H := Lib.hid hr.plans
  have HRL := Lib.hid hR
  have hn8 := hs.plans
  have hpm := Lib.hid hs.ports
  have hrw := Lib.hid hrow
  have hq : ((ls.length : Int) != (l.plans.length : Int)) = false := by rw [hl]; simp
  replace hl := Lib.hid hl
  obtain ⟨w0, hw0, X0, R0, B0⟩ := new3 w hr
  replace X0 := Lib.hid X0
  replace B0 := Lib.hid B0
  clear hr hs R0 hR hrow
  go_enter Try.func18, Try.ntmps18
  go_upto_region 1 with fail
  rw [← hw0]
  clear hw0
  have x0 := X0.out.c (i := 0) rfl
  have x1 := X0.out.c (i := 1) rfl
  have x2 := X0.out.c (i := 2) rfl
  have zx := X0.out.lt
  go_wp2_with fail
  clear hq x0 x1 x2 zx
  go_loopw [16] (fun i wr => ∃ k : Nat, k ≤ l.plans.length ∧ i = .int .i64 k ∧ Below w.heap.size w wr) (fun i _ => l.plans.length - (intOf i).toNat)
  case atStart => exact ⟨0, by omega, rfl, B0.out⟩
  case round =>
    obtain ⟨k, hk, rfl, hb⟩ := hrel
    obtain ⟨wo, hwo⟩ : ∃ W, W = wr := ⟨_, rfl⟩
    subst hwo
    by_cases hkn : k < l.plans.length
    · have hkl : (k : Int) < (l.plans.length : Int) := by omega
      have hkl2 : (k : Int) < (ls.length : Int) := by rw [hl.out]; exact hkl
      obtain ⟨p, hp⟩ : ∃ p, l.plans[k]? = some p := ⟨_, List.getElem?_eq_getElem hkn⟩
      obtain ⟨bS8, oS8, A8, c8, hAS8, hbS8, q8_0, q8_1, hrow8⟩ := RowP.at_ (H.out.below hb) hp
      subst hAS8
      obtain ⟨w8, hw8⟩ : ∃ W, W = wo.alloc (.cells #[.int .i64 p.id, .slice A8 p.ports.length c8] 61) := ⟨_, rfl⟩
      have bb8 : Below wo.heap.size wo w8 := by rw [hw8]; exact (Below.refl _ _).alloc (Nat.le_refl _) _
      have b8 := Lib.hid (bt hb bb8)
      have X8 := Lib.hid (show Bx w8 wo.heap.size 61 #[.int .i64 p.id, .slice A8 p.ports.length c8] by rw [hw8]; exact Bx.new _ _ _ rfl)
      have R8 := Lib.hid (hrow8.below bb8)
      clear hrow8
      have hpp := Lib.hid (show pl l k = p by have := plan_get hkn; rw [hp] at this; exact (Option.some.inj this).symm)
      have hpl := hpm.out p (List.mem_of_getElem? hp)
      replace hp := Lib.hid hp
      clear hb bb8
      go_upto_region 6 with fail
      rw [← hw8]
      clear hw8 q8_0 q8_1 hbS8
      have o8_0 := X8.out.c (i := 0) rfl
      have o8_1 := X8.out.c (i := 1) rfl
      have zz8 := X8.out.lt
      obtain ⟨r, hr9⟩ : ∃ r, ls[k]? = some r := ⟨_, List.getElem?_eq_getElem (by rw [hl.out]; exact hkn)⟩
      have hrl : r.length = p.ports.length := by rw [hrw.out k r hr9, hpp.out]
      obtain ⟨b1, o1, A1, c1, hCC, hb1, y0, _⟩ := (HRL.out.below b8.out).at_ hr9
      subst hCC
      have hqq : ((r.length : Int) != (p.ports.length : Int)) = false := by rw [hrl]; simp
      replace hr9 := Lib.hid hr9
      replace hrl := Lib.hid hrl
      go_quiet (fail)
      obtain ⟨w9, hw9⟩ : ∃ W, W = w8.drewN nq := ⟨_, rfl⟩
      have bb9 : Below w8.heap.size w8 w9 := by rw [hw9]; exact ⟨rfl, rfl, rfl, Nat.le_refl _, fun _ _ => rfl⟩
      rw [← hw9]
      have b9 := Lib.hid (bt b8.out bb9)
      clear hw9 bb9 y0 hb1 o8_0 o8_1 zz8
      go_wp2_with fail
      go_roundw
      case rel => exact ⟨k + 1, by omega, by go_num, b9.out⟩
      case measure => simp [intOf]; omega
    · obtain rfl : k = l.plans.length := by omega
      replace hb := Lib.hid hb
      go_wp2_with fail
      go_ret
      exact ⟨rfl, hb.out⟩
set_option maxHeartbeats 8000000 in
theorem sh_int {l : L} {A : Option Addr} {c : Nat} {B : Option Addr} {d : Nat} {w : World} {C : Option Addr} {e : Nat} {ls : List (List Int)} (hr : LanR w l A c B d) (hs : Small l) (hR : RowL ic w C ls.length e ls) (hl : ls.length = l.plans.length) (hrow : ∀ (b : Nat) r, ls[b]? = some r → r.length = (pl l b).ports.length) :
    Calls Try.prog 23 #[lv l A c B d, .slice C ls.length e] w fun en w' => en = .returned (.bool true) ∧ Below w.heap.size w w' := by
  have H := Lib.hid hr.plans
  have HRL := Lib.hid hR
  have hn8 := hs.plans
  have hpm := Lib.hid hs.ports
  have hrw := Lib.hid hrow
  have hq : ((ls.length : Int) != (l.plans.length : Int)) = false := by rw [hl]; simp
  replace hl := Lib.hid hl
  obtain ⟨w0, hw0, X0, R0, B0⟩ := new3 w hr
  replace X0 := Lib.hid X0
  replace B0 := Lib.hid B0
  clear hr hs R0 hR hrow
  go_enter Try.func23, Try.ntmps23
  go_upto_region 1 with fail
  rw [← hw0]
  clear hw0
  have x0 := X0.out.c (i := 0) rfl
  have x1 := X0.out.c (i := 1) rfl
  have x2 := X0.out.c (i := 2) rfl
  have zx := X0.out.lt
  go_wp2_with fail
  clear hq x0 x1 x2 zx
  go_loopw [16] (fun i wr => ∃ k : Nat, k ≤ l.plans.length ∧ i = .int .i64 k ∧ Below w.heap.size w wr) (fun i _ => l.plans.length - (intOf i).toNat)
  case atStart => exact ⟨0, by omega, rfl, B0.out⟩
  case round =>
    obtain ⟨k, hk, rfl, hb⟩ := hrel
    obtain ⟨wo, hwo⟩ : ∃ W, W = wr := ⟨_, rfl⟩
    subst hwo
    by_cases hkn : k < l.plans.length
    · have hkl : (k : Int) < (l.plans.length : Int) := by omega
      have hkl2 : (k : Int) < (ls.length : Int) := by rw [hl.out]; exact hkl
      obtain ⟨p, hp⟩ : ∃ p, l.plans[k]? = some p := ⟨_, List.getElem?_eq_getElem hkn⟩
      obtain ⟨bS8, oS8, A8, c8, hAS8, hbS8, q8_0, q8_1, hrow8⟩ := RowP.at_ (H.out.below hb) hp
      subst hAS8
      obtain ⟨w8, hw8⟩ : ∃ W, W = wo.alloc (.cells #[.int .i64 p.id, .slice A8 p.ports.length c8] 61) := ⟨_, rfl⟩
      have bb8 : Below wo.heap.size wo w8 := by rw [hw8]; exact (Below.refl _ _).alloc (Nat.le_refl _) _
      have b8 := Lib.hid (bt hb bb8)
      have X8 := Lib.hid (show Bx w8 wo.heap.size 61 #[.int .i64 p.id, .slice A8 p.ports.length c8] by rw [hw8]; exact Bx.new _ _ _ rfl)
      have R8 := Lib.hid (hrow8.below bb8)
      clear hrow8
      have hpp := Lib.hid (show pl l k = p by have := plan_get hkn; rw [hp] at this; exact (Option.some.inj this).symm)
      have hpl := hpm.out p (List.mem_of_getElem? hp)
      replace hp := Lib.hid hp
      clear hb bb8
      go_upto_region 6 with fail
      rw [← hw8]
      clear hw8 q8_0 q8_1 hbS8
      have o8_0 := X8.out.c (i := 0) rfl
      have o8_1 := X8.out.c (i := 1) rfl
      have zz8 := X8.out.lt
      obtain ⟨r, hr9⟩ : ∃ r, ls[k]? = some r := ⟨_, List.getElem?_eq_getElem (by rw [hl.out]; exact hkn)⟩
      have hrl : r.length = p.ports.length := by rw [hrw.out k r hr9, hpp.out]
      obtain ⟨b1, o1, A1, c1, hCC, hb1, y0, _⟩ := (HRL.out.below b8.out).at_ hr9
      subst hCC
      have hqq : ((r.length : Int) != (p.ports.length : Int)) = false := by rw [hrl]; simp
      replace hr9 := Lib.hid hr9
      replace hrl := Lib.hid hrl
      go_quiet (fail)
      obtain ⟨w9, hw9⟩ : ∃ W, W = w8.drewN nq := ⟨_, rfl⟩
      have bb9 : Below w8.heap.size w8 w9 := by rw [hw9]; exact ⟨rfl, rfl, rfl, Nat.le_refl _, fun _ _ => rfl⟩
      rw [← hw9]
      have b9 := Lib.hid (bt b8.out bb9)
      clear hw9 bb9 y0 hb1 o8_0 o8_1 zz8
      go_wp2_with fail
      go_roundw
      case rel => exact ⟨k + 1, by omega, by go_num, b9.out⟩
      case measure => simp [intOf]; omega
    · obtain rfl : k = l.plans.length := by omega
      replace hb := Lib.hid hb
      go_wp2_with fail
      go_ret
      exact ⟨rfl, hb.out⟩
end Go.Proofs.Ytplgaenfcaphnaa.LanP

/-
  Contract of tree's Open.
-/
namespace Go.Proofs.Ytplgaenfcaphnaa.LanP
open Go.RowKit Go.Sort Go.Proofs.Ytplgaenfcaphnaa.SliceP Go.Proofs.Ytplgaenfcaphnaa.BoxP
open Go.Proofs.Ytplgaenfcaphnaa.IntP (RowI SlI OwnI)
open Go.Proofs.Ytplgaenfcaphnaa.BoolP (RowB SlB OwnB)
open Go.Proofs.Ytplgaenfcaphnaa.MacP (arr_out)
set_option linter.unusedVariables false
set_option maxRecDepth 100000
theorem elBo : ElemT Try.prog 44 4 1 := BoolP.elB
theorem elRB : ElemT Try.prog 36 44 1 := ElemT.mk' (z := .slice none 0 0) (bytes := 24) Try.underlying36 (by kernel_rfl) (by decide) rfl (by decide)
def isOp (r : Int) : Bool := decide (r = 0 ∨ r = 1)
def L.opens (l : L) : List (List Bool) := l.roles.map fun r => r.map isOp
def opK (x : List Int) (j : Nat) : List Bool := (List.range x.length).map fun k => if k < j then isOp (x.getD k 0) else false
theorem opK_zero (x : List Int) : opK x 0 = List.replicate x.length false := by
  unfold opK
  apply List.ext_getElem?
  intro i
  rw [List.getElem?_map, List.getElem?_replicate]
  by_cases h : i < x.length
  · rw [if_pos h, List.getElem?_range h]; simp
  · rw [if_neg h, List.getElem?_eq_none (by simp; omega)]; rfl
theorem opK_len (x : List Int) (j : Nat) : (opK x j).length = x.length := by unfold opK; simp
theorem opK_succ (x : List Int) (j : Nat) (h : j < x.length) : (opK x j).set j (isOp (x.getD j 0)) = opK x (j + 1) := by
  apply List.ext_getElem?
  intro i
  rw [List.getElem?_set]
  unfold opK
  rw [List.getElem?_map, List.getElem?_map]
  by_cases hi : i < x.length
  · rw [List.getElem?_range hi]
    by_cases e : j = i
    · subst e; rw [if_pos rfl, if_pos (by simpa using h)]; simp
    · rw [if_neg e]
      simp only [Option.map_some]
      congr 1
      by_cases h2 : i < j
      · rw [if_pos h2, if_pos (by omega)]
      · rw [if_neg h2, if_neg (by omega)]
  · rw [List.getElem?_eq_none (by simp; omega)]
    by_cases e : j = i
    · omega
    · rw [if_neg e]; rfl
theorem opK_all (x : List Int) : opK x x.length = x.map isOp := by
  apply List.ext_getElem?
  intro i
  unfold opK
  rw [List.getElem?_map, List.getElem?_map]
  by_cases hi : i < x.length
  · rw [List.getElem?_range hi, List.getElem?_eq_getElem hi]
    simp [hi]
  · rw [List.getElem?_eq_none (by simp; omega), List.getElem?_eq_none (by omega)]; rfl
theorem roles_len (l : L) : l.roles.length = l.plans.length := by unfold L.roles; simp
theorem roles_row {l : L} (hs : Small l) {r : List Int} (h : r ∈ l.roles) : r.length ≤ 10 := by
  unfold L.roles at h
  obtain ⟨b, hb, rfl⟩ := List.mem_map.1 h
  unfold rolesB
  rw [List.length_map, List.length_range]
  exact hs.ports _ (List.mem_of_getElem? (plan_get (List.mem_range.1 hb)))
set_option maxHeartbeats 4000000 in
theorem o_open_no {l : L} {A : Option Addr} {c : Nat} {B : Option Addr} {d : Nat} {w : World} (hr : LanR w l A c B d) (hs : Small l) (ho : l.ok = false) :
    Calls Try.prog 11 #[lv l A c B d] w fun en w' => en = .returned (.tuple #[.slice none 0 0, .int .i64 1]) ∧ Below w.heap.size w w' := by
  obtain ⟨w0, hw0, X0, R0, B0⟩ := new3 w hr
  have hR := Lib.hid (o_right R0 hs ho)
  replace X0 := Lib.hid X0
  replace B0 := Lib.hid B0
  clear hr hs R0
  go_enter Try.func11, Try.ntmps11
  go_upto_region 1 with fail
  rw [← hw0]
  clear hw0
  have x0 := X0.out.c (i := 0) rfl
  have x1 := X0.out.c (i := 1) rfl
  have x2 := X0.out.c (i := 2) rfl
  have zx := X0.out.lt
  go_wp2_with fail
  go_at_call 27
  (with_reducible refine hR.out.mono ?_)
  rintro en w1 ⟨rfl, hb1⟩
  have B1 := Lib.hid (bt B0.out hb1)
  clear hb1 x0 x1 x2 zx
  go_wp2_with fail
  go_ret2
  exact ⟨rfl, B1.out⟩
set_option maxHeartbeats 16000000 in
theorem o_open_ok {l : L} {A : Option Addr} {c : Nat} {B : Option Addr} {d : Nat} {w : World} (hr : LanR w l A c B d) (hs : Small l) (ho : l.ok = true) :
    Calls Try.prog 11 #[lv l A c B d] w fun en w' => ∃ A' c', en = .returned (.tuple #[.slice A' l.opens.length c', .int .i64 0]) ∧ RowL bc w' A' l.opens.length c' l.opens ∧ Below w.heap.size w w' := by
  have HS := Lib.hid hs
  have hn8 := hs.plans
  obtain ⟨w0, hw0, X0, R0, B0⟩ := new3 w hr
  have hR := Lib.hid (o_right R0 hs ho)
  have hRO := Lib.hid (fun (W : World) (hW : Below w0.heap.size w0 W) => o_rolesof (R0.below hW) HS.out ho)
  replace X0 := Lib.hid X0
  replace B0 := Lib.hid B0
  clear hr hs R0 ho
  go_enter Try.func11, Try.ntmps11
  go_upto_region 1 with fail
  rw [← hw0]
  clear hw0
  have x0 := X0.out.c (i := 0) rfl
  have x1 := X0.out.c (i := 1) rfl
  have x2 := X0.out.c (i := 2) rfl
  have zx := X0.out.lt
  go_wp2_with fail
  go_at_call 27
  (with_reducible refine hR.out.mono ?_)
  rintro en w1 ⟨rfl, hb1⟩
  have B1 := Lib.hid (bt B0.out hb1)
  have X1 := Lib.hid (X0.out.below hb1)
  have hRO1 := Lib.hid (hRO.out w1 hb1)
  clear hb1 x0 x1 x2 zx hRO
  have x0 := X1.out.c (i := 0) rfl
  have x1 := X1.out.c (i := 1) rfl
  have x2 := X1.out.c (i := 2) rfl
  have zx := X1.out.lt
  go_wp2_with fail
  go_at_call 28
  (with_reducible refine hRO1.out.mono ?_)
  rintro en wo ⟨A2, c2, rfl, r2, f2, hb2⟩
  have hRr := Lib.hid (fun r (h : r ∈ l.roles) => roles_row HS.out h)
  have hrn := roles_len l
  have hop9 := Lib.hid (show l.opens = l.roles.map fun r => r.map isOp from rfl)
  obtain ⟨rls, hrls⟩ : ∃ r, l.roles = r := ⟨_, rfl⟩
  rw [hrls] at r2 hRr hrn hop9 ⊢
  have hn9 : rls.length ≤ 8 := by omega
  replace hrls := Lib.hid hrls
  replace hrn := Lib.hid hrn
  have R2 := Lib.hid r2
  have B2 := Lib.hid (bt B1.out hb2)
  clear r2 f2 hb2 x0 x1 x2 zx X0 X1 B1 hRO1 hR
  obtain ⟨bz, hbz0⟩ : ∃ b, b = wo.heap.size := ⟨_, rfl⟩
  replace hbz0 := Lib.hid hbz0
  go_wp2_with fail
  go_loopw [4, 16] (fun v i wr => ∃ (b : Nat) (rs : List (RwP Bool)), b ≤ rls.length ∧ i = .int .i64 b ∧ rs.map RwP.l = (rls.take b).map (fun r => r.map isOp) ∧ Own wr bz 44 1 v (rs.map RwP.cells) ∧ (∀ x ∈ rs, Own wr bz 4 1 (.slice x.A x.l.length x.c) (x.l.map bc)) ∧ bz ≤ wr.heap.size ∧ Below wo.heap.size wo wr) (fun _ i _ => rls.length - (intOf i).toNat)
  case atStart => exact ⟨0, [], by omega, rfl, rfl, Own.nil _ _ _ _, (fun x hx => by cases hx), by rw [hbz0.out]; exact Nat.le_refl _, Below.refl _ _⟩
  case round =>
    obtain ⟨b, rs, hk9, rfl, hL, hown, hin, hsz, hb⟩ := hrel
    obtain ⟨wi, hwi⟩ : ∃ W, W = wr := ⟨_, rfl⟩
    subst hwi
    obtain ⟨A3, c3, hv3⟩ := own_form hown
    subst hv3
    have hlenL := Lib.hid (show rs.length ≤ 100 by have := congrArg List.length hL; rw [List.length_map, List.length_map, List.length_take] at this; omega)
    by_cases hbn : b < rls.length
    · have hbl : (b : Int) < (rls.length : Int) := by omega
      obtain ⟨x, hx⟩ : ∃ x, rls[b]? = some x := ⟨_, List.getElem?_eq_getElem hbn⟩
      have hxl := hRr.out x (List.mem_of_getElem? hx)
      have hLs := Lib.hid (show (rls.take (b + 1)).map (fun r => r.map isOp) = (rls.take b).map (fun r => r.map isOp) ++ [x.map isOp] by rw [List.take_add_one, hx, List.map_append]; rfl)
      obtain ⟨b1, o1, A8, c8, hAA, hb1, y0, R8⟩ := (R2.out.below hb).at_ hx
      subst hAA
      replace hx := Lib.hid hx
      replace hL := Lib.hid hL
      have R9 := Lib.hid R8
      clear R8
      obtain ⟨w10, hmk, hbk, hb10, hs10⟩ := run_make_blk (P := Try.prog) wi 44 elBo zv_bool (size := 1) rfl x.length (by omega)
      obtain ⟨gR, hgR⟩ : ∃ g, g = wi.heap.size := ⟨_, rfl⟩
      rw [← hgR] at hmk hbk
      replace hgR := Lib.hid hgR
      have oR := Lib.hid (show Own w10 gR 4 1 (.slice (some ⟨gR, 0, none⟩) x.length x.length) ((opK x 0).map bc) by rw [opK_zero]; exact blk_own hbk rfl (fun u hu => by simp at hu; subst hu; rfl) (by omega))
      have own9 := Lib.hid hown
      have in9 := Lib.hid hin
      have b9 := Lib.hid hb
      have hsz9 := Lib.hid hsz
      have bK := Lib.hid (show Below wi.heap.size wi w10 from hb10)
      clear hbk hs10 hb10 hown hin hsz hb
      go_upto_region 8 with fail
      clear hmk y0 hb1
      go_wp2_with fail
      go_loopw [25] (fun i wk => ∃ j : Nat, j ≤ x.length ∧ i = .int .i64 j ∧ Own wk gR 4 1 (.slice (some ⟨gR, 0, none⟩) x.length x.length) ((opK x j).map bc) ∧ Below wi.heap.size wi wk) (fun i _ => x.length - (intOf i).toNat)
      case atStart => exact ⟨0, by omega, rfl, oR.out, bK.out⟩
      case round =>
        clear oR bK
        obtain ⟨j, hj, rfl, hoR, hb⟩ := hrel
        obtain ⟨wj, hwj⟩ : ∃ W, W = wr := ⟨_, rfl⟩
        subst hwj
        by_cases hjn : j < x.length
        · have hjl : (j : Int) < (x.length : Int) := by omega
          obtain ⟨y, hy⟩ : ∃ y, x[j]? = some y := ⟨_, List.getElem?_eq_getElem hjn⟩
          obtain ⟨b3, o3, hA3, hb3, x3⟩ := (R9.out.below hb).iat hy
          subst hA3
          have hgd : x.getD j 0 = y := by rw [List.getD_eq_getElem?_getD, hy]; rfl
          have hsu := opK_succ x j hjn
          rw [hgd] at hsu
          obtain ⟨v0, hv0⟩ : ∃ v, (opK x j)[j]? = some v := ⟨_, List.getElem?_eq_getElem (by rw [opK_len]; exact hjn)⟩
          have rc := own_cell hoR (by decide) (j := j) (cs := bc v0) (by rw [List.getElem?_map, hv0]; rfl) (v := .bool v0) (i := 0) rfl
          rw [Nat.mul_one, Nat.add_zero] at rc
          have rf := (own_free hoR j).1
          have rz := (own_free hoR j).2
          obtain ⟨v1, hv1⟩ : ∃ v, isOp y = v := ⟨_, rfl⟩
          rw [hv1] at hsu
          replace hv0 := Lib.hid hv0
          replace hy := Lib.hid hy
          replace hsu := Lib.hid hsu
          replace hgd := Lib.hid hgd
          have oR7 := Lib.hid hoR
          have b7 := Lib.hid hb
          clear hoR hb
          have hend : ∀ w5 : World, w5 = wj.setCell ⟨gR, j, none⟩ (.bool v1) → Own w5 gR 4 1 (.slice (some ⟨gR, 0, none⟩) x.length x.length) ((opK x (j + 1)).map bc) ∧ Below wi.heap.size wi w5 := fun w5 hw5 => by
            rw [hw5]
            refine ⟨?_, b7.out.setCell (by rw [hgR.out]; exact Nat.le_refl _) _⟩
            rw [← hsu.out, List.map_set]
            exact own_put1 oR7.out (by rw [List.length_map, opK_len]; exact hjn) rfl
          replace hend := Lib.hid hend
          by_cases e0 : y = 0
          · have hv : v1 = true := by rw [← hv1, e0]; rfl
            have c0 : (y == 0) = true := by simpa using e0
            replace e0 := Lib.hid e0
            subst hv
            replace hv1 := Lib.hid hv1
            go_wp2_with fail
            obtain ⟨w5, hw5⟩ : ∃ W, W = wj.setCell ⟨gR, j, none⟩ (.bool true) := ⟨_, rfl⟩
            obtain ⟨oR5, b5⟩ := hend.out w5 hw5
            rw [← hw5]
            clear hw5 rc rf rz x3 hb3
            go_roundw
            case rel => exact ⟨j + 1, by omega, by go_num, oR5, b5⟩
            case measure => simp [intOf]; omega
          · have c0 : (y == 0) = false := by simpa using e0
            by_cases e1 : y = 1
            · have hv : v1 = true := by rw [← hv1, e1]; rfl
              have c1 : (y == 1) = true := by simpa using e1
              replace e0 := Lib.hid e0
              replace e1 := Lib.hid e1
              subst hv
              replace hv1 := Lib.hid hv1
              go_wp2_with fail
              obtain ⟨w5, hw5⟩ : ∃ W, W = wj.setCell ⟨gR, j, none⟩ (.bool true) := ⟨_, rfl⟩
              obtain ⟨oR5, b5⟩ := hend.out w5 hw5
              rw [← hw5]
              clear hw5 rc rf rz x3 hb3
              go_roundw
              case rel => exact ⟨j + 1, by omega, by go_num, oR5, b5⟩
              case measure => simp [intOf]; omega
            · have hv : v1 = false := by rw [← hv1]; unfold isOp; exact decide_eq_false (by omega)
              have c1 : (y == 1) = false := by simpa using e1
              replace e0 := Lib.hid e0
              replace e1 := Lib.hid e1
              subst hv
              replace hv1 := Lib.hid hv1
              go_wp2_with fail
              obtain ⟨w5, hw5⟩ : ∃ W, W = wj.setCell ⟨gR, j, none⟩ (.bool false) := ⟨_, rfl⟩
              obtain ⟨oR5, b5⟩ := hend.out w5 hw5
              rw [← hw5]
              clear hw5 rc rf rz x3 hb3
              go_roundw
              case rel => exact ⟨j + 1, by omega, by go_num, oR5, b5⟩
              case measure => simp [intOf]; omega
        · obtain rfl : j = x.length := by omega
          have own7 := Lib.hid (own9.out.below hb)
          have in7 := Lib.hid (fun x hx => (in9.out x hx).below hb)
          have b7 := Lib.hid (bt b9.out hb)
          have hsz7 := Lib.hid (Nat.le_trans hsz9.out hb.size)
          have hge7 := Lib.hid (show bz ≤ gR by rw [hgR.out]; exact hsz9.out)
          have oR7 := Lib.hid (show Own wj gR 4 1 (.slice (some ⟨gR, 0, none⟩) x.length x.length) ((x.map isOp).map bc) by rw [← opK_all]; exact hoR)
          clear hoR hb own9 in9 b9 hsz9 R9
          have hrl : (x.map isOp).length = x.length := List.length_map ..
          have hcl := Lib.hid (show RwP.cells ⟨x.map isOp, some ⟨gR, 0, none⟩, x.length⟩ = [.slice (some ⟨gR, 0, none⟩) x.length x.length] by unfold RwP.cells; rw [hrl])
          replace hrl := Lib.hid hrl
          obtain ⟨w9', hw9'⟩ : ∃ W, W = wj.alloc (.cells #[.slice (some ⟨gR, 0, none⟩) x.length x.length] 44) := ⟨_, rfl⟩
          have bq : Below wj.heap.size wj w9' := by rw [hw9']; exact (Below.refl _ _).alloc (Nat.le_refl _) _
          have hsl := Lib.hid (show Sl w9' 1 (some ⟨wj.heap.size, 0, none⟩) ([RwP.mk (x.map isOp) (some ⟨gR, 0, none⟩) x.length].map RwP.cells) from bx_sl (T := 44) (vals := #[.slice (some ⟨gR, 0, none⟩) x.length x.length]) (by rw [hw9']; exact Bx.new _ _ _ rfl) (by show _ = (RwP.cells _ ++ []); rw [hcl.out]; rfl) (by intro cc hcc; simp at hcc; subst hcc; rfl))
          have ownq := Lib.hid (own7.out.below bq)
          have hn1 : Hid ((rs.map RwP.cells).length + ([RwP.mk (x.map isOp) (some ⟨gR, 0, none⟩) x.length].map RwP.cells).length ≤ 1000000) := Lib.hid (by rw [List.length_map]; have := hlenL.out; simp; omega)
          have hvl : Hid ((rs.map RwP.cells).length = rs.length) := Lib.hid (by rw [List.length_map])
          have hB2 : Hid (bz ≤ w9'.heap.size) := Lib.hid (Nat.le_trans hsz7.out bq.size)
          have inq := Lib.hid (fun x hx => (in7.out x hx).below bq)
          have oRq := Lib.hid (oR7.out.below bq)
          have bbq := Lib.hid (bt b7.out bq)
          clear bq
          go_wp2_with (at_builtin; rw [← hw9']; (refine wpList_append_sl rfl (.tmp 40) (.tmp 42) 36 rfl elRB (by rfl) ownq.out (by rfl) (by rfl) hsl.out (wholeR _) (fun h => by cases h) hn1.out hB2.out ?_); intro v' w4 own1 grow1 _)
          have hlo : ∀ j, (Value.slice A3 rs.length c3).ownBlock = some j → bz ≤ j := fun j hj => And.left (ownq.out.lt j hj)
          have b4 : Below wo.heap.size wo w4 := bbq.out.grown grow1 bbq.out.size (fun j hj => by have := hlo j hj; rw [hbz0.out] at this; exact this)
          have hin4 : ∀ z ∈ rs ++ [RwP.mk (x.map isOp) (some ⟨gR, 0, none⟩) x.length], Own w4 bz 4 1 (.slice z.A z.l.length z.c) (z.l.map bc) := fun z hz => by
            rcases List.mem_append.1 hz with hz | hz
            · exact (inq.out z hz).kept grow1 (by
                cases hob : (Value.slice z.A z.l.length z.c).ownBlock with
                | none => exact .inl rfl
                | some q => exact .inr (fun e => own_ne (inq.out z hz) ownq.out (by decide) q hob e.symm))
            · obtain rfl := List.mem_singleton.1 hz
              show Own w4 bz 4 1 (.slice (some ⟨gR, 0, none⟩) (x.map isOp).length x.length) ((x.map isOp).map bc)
              rw [hrl.out]
              have h9 := oRq.out.base hge7.out
              exact h9.kept grow1 (.inr (fun e => own_ne h9 ownq.out (by decide) gR rfl e.symm))
          have hL4 : (rs ++ [RwP.mk (x.map isOp) (some ⟨gR, 0, none⟩) x.length]).map RwP.l = (rls.take (b + 1)).map (fun r => r.map isOp) := by rw [List.map_append, hL.out, hLs.out]; rfl
          have hsz4 := Nat.le_trans hB2.out grow1.size
          clear grow1
          go_roundw
          case rel => exact ⟨b + 1, _, by omega, by go_num, hL4, own_snoc own1, hin4, hsz4, b4⟩
          case measure => simp [intOf]; omega
    · obtain rfl : b = rls.length := by omega
      rw [List.take_length] at hL
      have hLL : rs.map RwP.l = l.opens := hL.trans hop9.out.symm
      have hlen9 : rs.length = l.opens.length := by rw [← hLL, List.length_map]
      have hRL : RowL bc wi A3 rs.length c3 (rs.map RwP.l) := RowL.new hown (fun x hx => Row.own (hin x hx) (by decide))
      rw [hLL, hlen9] at hRL
      replace hRL := Lib.hid hRL
      have hbW := Lib.hid (bt B2.out hb)
      replace hlen9 := Lib.hid hlen9
      clear hown hin hb hL hLL hsz
      go_wp2_with fail
      go_ret2
      exact ⟨A3, c3, by rw [hlen9.out]; rfl, hRL.out, hbW.out⟩
end Go.Proofs.Ytplgaenfcaphnaa.LanP

/-
  Contract of footwaylaw16's closed.
-/
namespace Go.Proofs.Ytplgaenfcaphnaa.LanP
open Go.RowKit Go.Sort Go.Proofs.Ytplgaenfcaphnaa.SliceP Go.Proofs.Ytplgaenfcaphnaa.BoxP
open Go.Proofs.Ytplgaenfcaphnaa.IntP (RowI SlI OwnI)
open Go.Proofs.Ytplgaenfcaphnaa.BoolP (RowB SlB OwnB)
open Go.Proofs.Ytplgaenfcaphnaa.MacP (arr_out)
set_option linter.unusedVariables false
set_option maxRecDepth 100000
def shutP (l : L) (b k : Nat) : Lk := { prt l b k with up := (prt l b k).up && opn l b k }
def shutTo (l : L) (b j : Nat) : List Lk := (List.range j).map (shutP l b)
theorem shutTo_succ (l : L) (b j : Nat) : shutTo l b (j + 1) = shutTo l b j ++ [shutP l b j] := by unfold shutTo; rw [List.range_succ, List.map_append]; rfl
theorem shutTo_len (l : L) (b j : Nat) : (shutTo l b j).length = j := by unfold shutTo; simp
def treeTo (l : L) (b : Nat) : List P := (List.range b).map (treeP l)
theorem treeTo_succ (l : L) (b : Nat) : treeTo l (b + 1) = treeTo l b ++ [treeP l b] := by unfold treeTo; rw [List.range_succ, List.map_append]; rfl
theorem treeP_is {l : L} {b : Nat} {p : P} (h : pl l b = p) : treeP l b = ⟨p.id, shutTo l b p.ports.length⟩ := by rw [← h]; rfl
theorem opens_len (l : L) : l.opens.length = l.plans.length := by unfold L.opens; rw [List.length_map, roles_len]
theorem opens_get {l : L} {b : Nat} (hb : b < l.plans.length) : l.opens[b]? = some ((rolesB l b).map isOp) := by
  unfold L.opens L.roles
  rw [List.getElem?_map, List.getElem?_map, List.getElem?_range hb]; rfl
theorem opens_at {l : L} {b k : Nat} (hk : k < (pl l b).ports.length) : ((rolesB l b).map isOp)[k]? = some (opn l b k) := by
  unfold rolesB
  rw [List.getElem?_map, List.getElem?_map, List.getElem?_range hk, open_role]; rfl
set_option maxHeartbeats 16000000 in
theorem o_closed {l : L} {A : Option Addr} {c : Nat} {B : Option Addr} {d : Nat} {w : World} {C : Option Addr} {e : Nat} (hr : LanR w l A c B d) (hs : Small l) (hR : RowL bc w C l.opens.length e l.opens) :
    Calls Try.prog 19 #[lv l A c B d, .slice C l.opens.length e] w fun en w' => ∃ A' c', en = .returned (lv l.tree A' c' B d) ∧ LanR w' l.tree A' c' B d ∧ Below w.heap.size w w' := by
  have hn8 := hs.plans
  have hpm := Lib.hid hs.ports
  have H := Lib.hid hr
  have HRL := Lib.hid hR
  have hop := Lib.hid (opens_len l)
  obtain ⟨w0, hw0⟩ : ∃ W, W = (w.alloc (.cells #[.int .i64 l.segs, .slice A l.plans.length c, .slice B l.hosts.length d] 25)).alloc (.cells #[.int .i64 0, .slice none 0 0, .slice none 0 0] 25) := ⟨_, rfl⟩
  obtain ⟨b2, hb2⟩ : ∃ b, b = w.heap.size + 1 := ⟨_, rfl⟩
  have B0 := Lib.hid (show Below w.heap.size w w0 by rw [hw0]; exact ((Below.refl _ _).alloc (Nat.le_refl _) _).alloc (by simp) _)
  have X0 := Lib.hid (show Bx w0 w.heap.size 25 #[.int .i64 l.segs, .slice A l.plans.length c, .slice B l.hosts.length d] by rw [hw0]; exact (Bx.new _ _ _ rfl).alloc _)
  have Y0 := Lib.hid (show Bx w0 b2 25 #[.int .i64 0, .slice none 0 0, .slice none 0 0] by rw [hw0, hb2]; exact Bx.new _ _ _ (by simp))
  have hd2 := Lib.hid (show w.heap.size ≤ b2 ∧ w.heap.size ≠ b2 by omega)
  clear hr hs hR
  go_enter Try.func19, Try.ntmps19
  go_upto_region 2 with fail
  rw [← hw0, ← hb2]
  clear hw0 hb2
  have x0 := X0.out.c (i := 0) rfl
  have x1 := X0.out.c (i := 1) rfl
  have x2 := X0.out.c (i := 2) rfl
  have zz := X0.out.lt
  have hsz0 := Lib.hid (show w.heap.size < w0.heap.size ∧ b2 < w0.heap.size from ⟨X0.out.lt, Y0.out.lt⟩)
  go_wp2_with fail
  clear x0 x1 x2 zz
  go_loopw [5, 14] (fun v i wr => ∃ (b : Nat) (K : List PP), b ≤ l.plans.length ∧ i = .int .i64 b ∧ K.map PP.p = treeTo l b ∧ Own wr w0.heap.size 61 2 v (K.map PP.cells) ∧ (∀ x ∈ K, Own wr w0.heap.size 63 3 (.slice x.A x.p.ports.length x.c) (x.p.ports.map kc)) ∧ w0.heap.size ≤ wr.heap.size ∧ Bx wr w.heap.size 25 #[.int .i64 l.segs, .slice A l.plans.length c, .slice B l.hosts.length d] ∧ Bx wr b2 25 #[.int .i64 0, .slice none 0 0, .slice none 0 0] ∧ Below w.heap.size w wr) (fun _ i _ => l.plans.length - (intOf i).toNat)
  case atStart => exact ⟨0, [], by omega, rfl, rfl, Own.nil _ _ _ _, (fun x hx => by cases hx), Nat.le_refl _, X0.out, Y0.out, B0.out⟩
  case round =>
    clear X0 Y0 B0
    obtain ⟨b, K, hk9, rfl, hL, hown, hin, hsz, hX, hY, hb⟩ := hrel
    obtain ⟨wo, hwo⟩ : ∃ W, W = wr := ⟨_, rfl⟩
    subst hwo
    obtain ⟨A3, c3, hv3⟩ := own_form hown
    subst hv3
    have hlenL := Lib.hid (show K.length ≤ 100 by have := congrArg List.length hL; rw [List.length_map] at this; unfold treeTo at this; rw [List.length_map, List.length_range] at this; omega)
    by_cases hbn : b < l.plans.length
    · have hbl : (b : Int) < (l.plans.length : Int) := by omega
      have HPL := Lib.hid H.out.plans
      have hob := Lib.hid (opens_get hbn)
      obtain ⟨p, hp⟩ : ∃ p, l.plans[b]? = some p := ⟨_, List.getElem?_eq_getElem hbn⟩
      obtain ⟨bS8, oS8, A8, c8, hAS8, hbS8, q8_0, q8_1, hrow8⟩ := RowP.at_ (HPL.out.below hb) hp
      subst hAS8
      obtain ⟨w8, hw8⟩ : ∃ W, W = wo.alloc (.cells #[.int .i64 p.id, .slice A8 p.ports.length c8] 61) := ⟨_, rfl⟩
      have bb8 : Below wo.heap.size wo w8 := by rw [hw8]; exact (Below.refl _ _).alloc (Nat.le_refl _) _
      have b8 := Lib.hid (bt hb bb8)
      have X8 := Lib.hid (show Bx w8 wo.heap.size 61 #[.int .i64 p.id, .slice A8 p.ports.length c8] by rw [hw8]; exact Bx.new _ _ _ rfl)
      have R8 := Lib.hid (hrow8.below bb8)
      clear hrow8
      have hpp := Lib.hid (show pl l b = p by have := plan_get hbn; rw [hp] at this; exact (Option.some.inj this).symm)
      have hpl := hpm.out p (List.mem_of_getElem? hp)
      have own8 := Lib.hid (hown.below bb8)
      have in8 := Lib.hid (fun x hx => (hin x hx).below bb8)
      have X8l := Lib.hid (hX.below bb8)
      have Y8l := Lib.hid (hY.below bb8)
      have hsz8 := Lib.hid (Nat.le_trans hsz bb8.size)
      replace hL := Lib.hid hL
      clear hown hin hX hY hsz
      replace hp := Lib.hid hp
      clear hb bb8
      go_upto_region 5 with fail
      rw [← hw8]
      clear hw8 q8_0 q8_1 hbS8
      have o8_0 := X8.out.c (i := 0) rfl
      have o8_1 := X8.out.c (i := 1) rfl
      have zz8 := X8.out.lt
      go_wp2_with fail
      clear o8_0 o8_1 zz8
      go_loopw [8, 22] (fun v i wk => ∃ j : Nat, j ≤ p.ports.length ∧ i = .int .i64 j ∧ Own wk w8.heap.size 63 3 v ((shutTo l b j).map kc) ∧ w8.heap.size ≤ wk.heap.size ∧ Below w8.heap.size w8 wk) (fun _ i _ => p.ports.length - (intOf i).toNat)
      case atStart => exact ⟨0, by omega, rfl, Own.nil _ _ _ _, Nat.le_refl _, Below.refl _ _⟩
      case round =>
        obtain ⟨j, hj, rfl, hoR, hszj, hb⟩ := hrel
        obtain ⟨wj, hwj⟩ : ∃ W, W = wr := ⟨_, rfl⟩
        subst hwj
        obtain ⟨A4, c4, hv4⟩ := own_form hoR
        subst hv4
        have hlj := shutTo_len l b j
        by_cases hjn : j < p.ports.length
        · have hjl : (j : Int) < (p.ports.length : Int) := by omega
          have hoa := Lib.hid (opens_at (l := l) (b := b) (k := j) (by rw [hpp.out]; exact hjn))
          obtain ⟨y, hy⟩ : ∃ y, p.ports[j]? = some y := ⟨_, List.getElem?_eq_getElem hjn⟩
          obtain ⟨bS7, oS7, hAS7, hbS7, q7_0, q7_1, q7_2⟩ := Row.kat (R8.out.below hb) hy
          subst hAS7
          obtain ⟨w7, hw7⟩ : ∃ W, W = wj.alloc (.cells #[.int .i64 y.seg, .int .i64 y.cost, .bool y.up] 63) := ⟨_, rfl⟩
          have bb7 : Below wj.heap.size wj w7 := by rw [hw7]; exact (Below.refl _ _).alloc (Nat.le_refl _) _
          have b7 := Lib.hid (bt hb bb7)
          have X7 := Lib.hid (show Bx w7 wj.heap.size 63 #[.int .i64 y.seg, .int .i64 y.cost, .bool y.up] by rw [hw7]; exact Bx.new _ _ _ rfl)
          have oR7 := Lib.hid (hoR.below bb7)
          have hpy := Lib.hid (show prt l b j = y by have h9 := ports_get (l := l) (b := b) (k := j) (by rw [hpp.out]; exact hjn); rw [hpp.out, hy] at h9; exact (Option.some.inj h9).symm)
          have hz7 := Lib.hid (Nat.le_trans hszj bb7.size)
          have hgj := Lib.hid hszj
          have hnb := Lib.hid (show ∀ q, (Value.slice A4 (shutTo l b j).length c4).ownBlock = some q → q < wj.heap.size from fun q hq => (hoR.lt q hq).2)
          clear hoR hszj
          replace hy := Lib.hid hy
          clear hb bb7
          go_upto_region 9 with fail
          rw [← hw7]
          clear hw7 q7_0 q7_1 q7_2 hbS7
          have o7_0 := X7.out.c (i := 0) rfl
          have o7_1 := X7.out.c (i := 1) rfl
          have o7_2 := X7.out.c (i := 2) rfl
          have zz7 := X7.out.lt
          obtain ⟨vo, hvo⟩ : ∃ v, opn l b j = v := ⟨_, rfl⟩
          have hoa2 := hoa.out
          rw [hvo] at hoa2
          obtain ⟨b1, o1, A5, c5, hCC, hb1, u0, ROW⟩ := (HRL.out.below (bt b8.out b7.out)).at_ hob.out
          subst hCC
          obtain ⟨b3, o3, hA5, hb3, u3⟩ := ROW.bat hoa2
          subst hA5
          have hbl2 : (b : Int) < (l.opens.length : Int) := by rw [hop.out]; exact hbl
          have hrl9 : ((rolesB l b).map isOp).length = p.ports.length := by unfold rolesB; rw [List.length_map, List.length_map, List.length_range, hpp.out]
          rw [hrl9] at u0
          replace hrl9 := Lib.hid hrl9
          replace hoa2 := Lib.hid hoa2
          replace ROW := Lib.hid ROW
          obtain ⟨uy, huy⟩ : ∃ u, y.up = u := ⟨_, rfl⟩
          rw [huy] at o7_2
          have hsp := Lib.hid (show shutP l b j = ⟨y.seg, y.cost, uy && vo⟩ by unfold shutP; rw [hpy.out, hvo, huy])
          replace huy := Lib.hid huy
          replace hvo := Lib.hid hvo
          have f2 := X7.out.f 2
          have hend : ∀ (u : Bool) (w6 : World), w6 = w7.setCell ⟨wj.heap.size, 2, none⟩ (.bool u) → Bx w6 wj.heap.size 63 #[.int .i64 y.seg, .int .i64 y.cost, .bool u] ∧ Own w6 w8.heap.size 63 3 (.slice A4 (shutTo l b j).length c4) ((shutTo l b j).map kc) ∧ Below w8.heap.size w8 w6 ∧ w8.heap.size ≤ w6.heap.size := fun u w6 hw6 => by
            have h1 := X7.out.set 2 (.bool u)
            rw [hw6]
            refine ⟨h1, oR7.out.kept (setCell_grown _ _ _ _) (.inr (fun e => ?_)), b7.out.setCell hgj.out _, by rw [show (w7.setCell ⟨wj.heap.size, 2, none⟩ (.bool u)).heap.size = w7.heap.size by simp]; exact hz7.out⟩
            have := hnb.out _ e
            omega
          replace hend := Lib.hid hend
          cases uy
          · skip
            go_upto_region 10 with fail
            obtain ⟨w6, hw6⟩ : ∃ W, W = w7.setCell ⟨wj.heap.size, 2, none⟩ (.bool false) := ⟨_, rfl⟩
            obtain ⟨X6, oR6, b6, z6⟩ := hend.out _ w6 hw6
            rw [← hw6]
            clear hw6 o7_0 o7_1 o7_2 zz7 f2 u0 u3 hb1 hb3
            have k0 := X6.c (i := 0) rfl
            have k1 := X6.c (i := 1) rfl
            have k2 := X6.c (i := 2) rfl
            have zk := X6.lt
            obtain ⟨w9, hw9⟩ : ∃ W, W = w6.alloc (.cells #[.int .i64 y.seg, .int .i64 y.cost, .bool false] 63) := ⟨_, rfl⟩
            have bq : Below w6.heap.size w6 w9 := by rw [hw9]; exact (Below.refl _ _).alloc (Nat.le_refl _) _
            have hsl := Lib.hid (show Sl w9 3 (some ⟨w6.heap.size, 0, none⟩) ([shutP l b j].map kc) from bx_sl (T := 63) (vals := #[.int .i64 y.seg, .int .i64 y.cost, .bool false]) (by rw [hw9]; exact Bx.new _ _ _ rfl) (by show _ = (kc (shutP l b j) ++ []); rw [hsp.out]; rfl) (by intro cc hcc; simp at hcc; subst hcc; rfl))
            have ownq := Lib.hid (oR6.below bq)
            have hn1 : Hid (((shutTo l b j).map kc).length + ([shutP l b j].map kc).length ≤ 1000000) := Lib.hid (by rw [List.length_map, hlj]; simp; omega)
            have hvl : Hid (((shutTo l b j).map kc).length = (shutTo l b j).length) := Lib.hid (by rw [List.length_map])
            have hB2 : Hid (w8.heap.size ≤ w9.heap.size) := Lib.hid (Nat.le_trans z6 bq.size)
            have bbq := Lib.hid (bt b6 bq)
            replace X6 := Lib.hid X6
            clear bq oR6 b6 z6
            go_wp2_with (at_builtin; rw [← hw9]; (refine wpList_append_sl rfl (.tmp 39) (.tmp 41) 59 rfl elK (by rfl) ownq.out (by rfl) (by rfl) hsl.out (wholeK _) (fun h => by cases h) hn1.out hB2.out ?_); intro v' w4 own1 grow1 _)
            have b4 : Below w8.heap.size w8 w4 := bbq.out.grown grow1 bbq.out.size (fun q hq => And.left (ownq.out.lt q hq))
            have own2 := own_snoc own1
            rw [← shutTo_succ] at own2
            have hsz4 := Nat.le_trans hB2.out grow1.size
            clear grow1 own1
            go_roundw
            case rel => exact ⟨j + 1, by omega, by go_num, own2, hsz4, b4⟩
            case measure => simp [intOf]; omega
          · skip
            go_upto_region 10 with fail
            obtain ⟨w6, hw6⟩ : ∃ W, W = w7.setCell ⟨wj.heap.size, 2, none⟩ (.bool vo) := ⟨_, rfl⟩
            obtain ⟨X6, oR6, b6, z6⟩ := hend.out _ w6 hw6
            rw [← hw6]
            clear hw6 o7_0 o7_1 o7_2 zz7 f2 u0 u3 hb1 hb3
            have k0 := X6.c (i := 0) rfl
            have k1 := X6.c (i := 1) rfl
            have k2 := X6.c (i := 2) rfl
            have zk := X6.lt
            obtain ⟨w9, hw9⟩ : ∃ W, W = w6.alloc (.cells #[.int .i64 y.seg, .int .i64 y.cost, .bool vo] 63) := ⟨_, rfl⟩
            have bq : Below w6.heap.size w6 w9 := by rw [hw9]; exact (Below.refl _ _).alloc (Nat.le_refl _) _
            have hsl := Lib.hid (show Sl w9 3 (some ⟨w6.heap.size, 0, none⟩) ([shutP l b j].map kc) from bx_sl (T := 63) (vals := #[.int .i64 y.seg, .int .i64 y.cost, .bool vo]) (by rw [hw9]; exact Bx.new _ _ _ rfl) (by show _ = (kc (shutP l b j) ++ []); rw [hsp.out]; rfl) (by intro cc hcc; simp at hcc; subst hcc; rfl))
            have ownq := Lib.hid (oR6.below bq)
            have hn1 : Hid (((shutTo l b j).map kc).length + ([shutP l b j].map kc).length ≤ 1000000) := Lib.hid (by rw [List.length_map, hlj]; simp; omega)
            have hvl : Hid (((shutTo l b j).map kc).length = (shutTo l b j).length) := Lib.hid (by rw [List.length_map])
            have hB2 : Hid (w8.heap.size ≤ w9.heap.size) := Lib.hid (Nat.le_trans z6 bq.size)
            have bbq := Lib.hid (bt b6 bq)
            replace X6 := Lib.hid X6
            clear bq oR6 b6 z6
            go_wp2_with (at_builtin; rw [← hw9]; (refine wpList_append_sl rfl (.tmp 39) (.tmp 41) 59 rfl elK (by rfl) ownq.out (by rfl) (by rfl) hsl.out (wholeK _) (fun h => by cases h) hn1.out hB2.out ?_); intro v' w4 own1 grow1 _)
            have b4 : Below w8.heap.size w8 w4 := bbq.out.grown grow1 bbq.out.size (fun q hq => And.left (ownq.out.lt q hq))
            have own2 := own_snoc own1
            rw [← shutTo_succ] at own2
            have hsz4 := Nat.le_trans hB2.out grow1.size
            clear grow1 own1
            go_roundw
            case rel => exact ⟨j + 1, by omega, by go_num, own2, hsz4, b4⟩
            case measure => simp [intOf]; omega
        · obtain rfl : j = p.ports.length := by omega
          have own7 := Lib.hid (own8.out.below hb)
          have in7 := Lib.hid (fun x hx => (in8.out x hx).below hb)
          have X7 := Lib.hid (X8l.out.below hb)
          have Y7 := Lib.hid (Y8l.out.below hb)
          have P7 := Lib.hid (X8.out.below hb)
          have b7 := Lib.hid (bt b8.out hb)
          have hsz7 := Lib.hid (Nat.le_trans hsz8.out hb.size)
          have oR7 := Lib.hid hoR
          have hlo0 := hsz8.out
          clear hoR hb own8 in8 X8l Y8l hsz8 hszj
          have hcl := Lib.hid (show PP.cells ⟨treeP l b, A4, c4⟩ = [.int .i64 p.id, .slice A4 (shutTo l b p.ports.length).length c4] by rw [treeP_is hpp.out]; rfl)
          have p0 := P7.out.c (i := 0) rfl
          have p1 := P7.out.c (i := 1) rfl
          have zp := P7.out.lt
          obtain ⟨w9, hw9⟩ : ∃ W, W = wj.alloc (.cells #[.int .i64 p.id, .slice A4 (shutTo l b p.ports.length).length c4] 61) := ⟨_, rfl⟩
          have bq : Below wj.heap.size wj w9 := by rw [hw9]; exact (Below.refl _ _).alloc (Nat.le_refl _) _
          have hsl := Lib.hid (show Sl w9 2 (some ⟨wj.heap.size, 0, none⟩) ([PP.mk (treeP l b) A4 c4].map PP.cells) from bx_sl (T := 61) (vals := #[.int .i64 p.id, .slice A4 (shutTo l b p.ports.length).length c4]) (by rw [hw9]; exact Bx.new _ _ _ rfl) (by show _ = (PP.cells _ ++ []); rw [hcl.out]; rfl) (by intro cc hcc; simp at hcc; subst hcc; rfl))
          have ownq := Lib.hid (own7.out.below bq)
          have hn1 : Hid ((K.map PP.cells).length + ([PP.mk (treeP l b) A4 c4].map PP.cells).length ≤ 1000000) := Lib.hid (by rw [List.length_map]; have := hlenL.out; simp; omega)
          have hvl : Hid ((K.map PP.cells).length = K.length) := Lib.hid (by rw [List.length_map])
          have hB2 : Hid (w0.heap.size ≤ w9.heap.size) := Lib.hid (Nat.le_trans hsz7.out bq.size)
          have inq := Lib.hid (fun x hx => (in7.out x hx).below bq)
          have oRq := Lib.hid (oR7.out.below bq)
          have Xq := Lib.hid (X7.out.below bq)
          have Yq := Lib.hid (Y7.out.below bq)
          have bbq := Lib.hid (bt b7.out bq)
          replace hlj := Lib.hid hlj
          replace hlo0 := Lib.hid hlo0
          clear bq
          go_wp2_with (at_builtin; rw [← hw9]; (refine wpList_append_sl rfl (.tmp 44) (.tmp 49) 22 rfl elP (by rfl) ownq.out (by rfl) (by rfl) hsl.out (wholeP _) (fun h => by cases h) hn1.out hB2.out ?_); intro v' w4 own1 grow1 _)
          have hlo : ∀ q, (Value.slice A3 K.length c3).ownBlock = some q → w0.heap.size ≤ q := fun q hq => And.left (ownq.out.lt q hq)
          have b4 : Below w.heap.size w w4 := bbq.out.grown grow1 bbq.out.size (fun q hq => by have := hlo q hq; have := hsz0.out; omega)
          have hX4 := Xq.out.grown grow1 (fun e => by have := hlo _ e.symm; have := hsz0.out; omega)
          have hY4 := Yq.out.grown grow1 (fun e => by have := hlo _ e.symm; have := hsz0.out; omega)
          have hin4 : ∀ z ∈ K ++ [PP.mk (treeP l b) A4 c4], Own w4 w0.heap.size 63 3 (.slice z.A z.p.ports.length z.c) (z.p.ports.map kc) := fun z hz => by
            rcases List.mem_append.1 hz with hz | hz
            · exact (inq.out z hz).kept grow1 (by
                cases hob9 : (Value.slice z.A z.p.ports.length z.c).ownBlock with
                | none => exact .inl rfl
                | some q => exact .inr (fun e => own_ne (inq.out z hz) ownq.out (by decide) q hob9 e.symm))
            · obtain rfl := List.mem_singleton.1 hz
              show Own w4 w0.heap.size 63 3 (.slice A4 (treeP l b).ports.length c4) ((treeP l b).ports.map kc)
              rw [treeP_is hpp.out]
              have h9 := oRq.out.base hlo0.out
              exact h9.kept grow1 (by
                cases hob9 : (Value.slice A4 (shutTo l b p.ports.length).length c4).ownBlock with
                | none => exact .inl rfl
                | some q => exact .inr (fun e => own_ne h9 ownq.out (by decide) q hob9 e.symm))
          have hL4 : (K ++ [PP.mk (treeP l b) A4 c4]).map PP.p = treeTo l (b + 1) := by rw [List.map_append, hL.out, treeTo_succ]; rfl
          have hsz4 := Nat.le_trans hB2.out grow1.size
          clear grow1
          go_roundw
          case rel => exact ⟨b + 1, _, by omega, by go_num, hL4, own_snoc own1, hin4, hsz4, hX4, hY4, b4⟩
          case measure => simp [intOf]; omega
    · obtain rfl : b = l.plans.length := by omega
      have hPl : l.tree.plans = K.map PP.p := by rw [hL]; rfl
      have hnp : l.tree.plans.length = K.length := by rw [hPl, List.length_map]
      have hown9 := Lib.hid hown
      have hho := Lib.hid (show Row hc 2 w B l.tree.hosts.length d l.tree.hosts from H.out.hosts)
      have hbw := Lib.hid hb
      have x0 := hX.c (i := 0) rfl
      have x1 := hX.c (i := 1) rfl
      have x2 := hX.c (i := 2) rfl
      have f0 := hX.f 0
      have f1 := hX.f 1
      have f2 := hX.f 2
      have y0 := hY.c (i := 0) rfl
      have y1 := hY.c (i := 1) rfl
      have y2 := hY.c (i := 2) rfl
      have g0 := hY.f 0
      have g1 := hY.f 1
      have g2 := hY.f 2
      have zz := hX.lt
      have z2 := hY.lt
      have hne1 : ¬ b2 = w.heap.size := fun e => hd2.out.2 e.symm
      have hne2 : ¬ w.heap.size = b2 := fun e => hd2.out.2 e
      have hob : (Value.slice A3 K.length c3).ownBlock = none ∨ (Value.slice A3 K.length c3).ownBlock ≠ some w.heap.size := .inr (fun e => by have := (hown.lt _ e).1; have := hsz0.out; omega)
      have hob2 : (Value.slice A3 K.length c3).ownBlock = none ∨ (Value.slice A3 K.length c3).ownBlock ≠ some b2 := .inr (fun e => by have := (hown.lt _ e).1; have := hsz0.out; omega)
      have hin9 := Lib.hid (show ∀ (W : World) (q : Nat), q < w0.heap.size → wo.grownBy W (some q) → ∀ x ∈ K, Own W w0.heap.size 63 3 (.slice x.A x.p.ports.length x.c) (x.p.ports.map kc) from fun W q hq hg x hx => (hin x hx).kept hg (by
        cases hob9 : (Value.slice x.A x.p.ports.length x.c).ownBlock with
        | none => exact .inl rfl
        | some k => exact .inr (fun e => by have := ((hin x hx).lt _ hob9).1; have := Option.some.inj e; omega)))
      replace hPl := Lib.hid hPl
      replace hL := Lib.hid hL
      replace hin := Lib.hid hin
      replace hnp := Lib.hid hnp
      replace hlenL := Lib.hid hlenL
      have XX := Lib.hid hX
      have YY := Lib.hid hY
      replace hob := Lib.hid hob
      replace hob2 := Lib.hid hob2
      clear hown hX hY hb hsz
      go_upto_region 15 with fail
      obtain ⟨w5, hw5⟩ : ∃ W, W = wo.setCell ⟨w.heap.size, 1, none⟩ (.slice A3 K.length c3) := ⟨_, rfl⟩
      have X5 := (show Bx w5 w.heap.size 25 #[.int .i64 l.segs, .slice A3 K.length c3, .slice B l.hosts.length d] by rw [hw5]; exact XX.out.set 1 (.slice A3 K.length c3))
      have Y5 := (show Bx w5 b2 25 #[.int .i64 0, .slice none 0 0, .slice none 0 0] by rw [hw5]; exact YY.out.other hne1 1 (.slice A3 K.length c3))
      have B5 := Lib.hid (show Below w.heap.size w w5 by rw [hw5]; exact hbw.out.setCell (Nat.le_refl _) (.slice A3 K.length c3))
      have own5 := Lib.hid (show Own w5 w0.heap.size 61 2 (.slice A3 K.length c3) (K.map PP.cells) by rw [hw5]; exact hown9.out.kept (setCell_grown _ _ _ _) hob.out)
      have in5 := Lib.hid (hin9.out w5 w.heap.size hsz0.out.1 (by rw [hw5]; exact setCell_grown _ _ _ _))
      rw [← hw5]
      clear hw5 x0 x1 x2 f0 f1 f2 y0 y1 y2 g0 g1 g2 zz z2 XX YY
      have x0 := X5.c (i := 0) rfl
      have x1 := X5.c (i := 1) rfl
      have x2 := X5.c (i := 2) rfl
      have y0 := Y5.c (i := 0) rfl
      have y1 := Y5.c (i := 1) rfl
      have y2 := Y5.c (i := 2) rfl
      have g0 := Y5.f 0
      have g1 := Y5.f 1
      have g2 := Y5.f 2
      have zz := X5.lt
      have z2 := Y5.lt
      replace X5 := Lib.hid X5
      replace Y5 := Lib.hid Y5
      go_wp2_with fail
      obtain ⟨w6, hw6⟩ : ∃ W, W = ((w5.setCell ⟨b2, 0, none⟩ (.int .i64 l.segs)).setCell ⟨b2, 1, none⟩ (.slice A3 K.length c3)).setCell ⟨b2, 2, none⟩ (.slice B l.hosts.length d) := ⟨_, rfl⟩
      have Y6 := (show Bx w6 b2 25 #[.int .i64 l.segs, .slice A3 K.length c3, .slice B l.hosts.length d] by rw [hw6]; exact Bx.three Y5.out)
      have B6 := Lib.hid (show Below w.heap.size w w6 by rw [hw6]; exact ((B5.out.setCell hd2.out.1 (.int .i64 l.segs)).setCell hd2.out.1 (.slice A3 K.length c3)).setCell hd2.out.1 (.slice B l.hosts.length d))
      have own6 := Lib.hid (show Own w6 w0.heap.size 61 2 (.slice A3 K.length c3) (K.map PP.cells) by rw [hw6]; exact ((own5.out.kept (setCell_grown _ _ _ _) hob2.out).kept (setCell_grown _ _ _ _) hob2.out).kept (setCell_grown _ _ _ _) hob2.out)
      have in6 := Lib.hid (show ∀ x ∈ K, x.in_ w6 from fun x hx => by
        have hg : w5.grownBy w6 (some b2) := by rw [hw6]; exact ((setCell_grown _ _ _ _).trans (setCell_grown _ _ _ _)).trans (setCell_grown _ _ _ _)
        exact Row.own ((in5.out x hx).kept hg (by
          cases hob9 : (Value.slice x.A x.p.ports.length x.c).ownBlock with
          | none => exact .inl rfl
          | some k => exact .inr (fun e => by have := ((in5.out x hx).lt _ hob9).1; have := Option.some.inj e; have := hsz0.out; omega))) (by decide))
      rw [← hw6]
      clear hw6 x0 x1 x2 y0 y1 y2 g0 g1 g2 zz z2
      have k0 := Y6.c (i := 0) rfl
      have k1 := Y6.c (i := 1) rfl
      have k2 := Y6.c (i := 2) rfl
      replace Y6 := Lib.hid Y6
      refine bodyPost_ret (v := .agg #[.int .i64 l.segs, .slice A3 K.length c3, .slice B l.hosts.length d]) (by simp [results, Try.results19, go_sem, k0, k1, k2]) rfl ⟨A3, c3, ?_, ⟨?_, hho.out.below B6.out⟩, B6.out⟩
      · show _ = Ending.returned (.agg #[.int .i64 l.tree.segs, .slice A3 l.tree.plans.length c3, .slice B l.tree.hosts.length d])
        rw [hnp.out]; rfl
      · rw [hnp.out, hPl.out]
        exact RowP.new own6.out in6.out
end Go.Proofs.Ytplgaenfcaphnaa.LanP
