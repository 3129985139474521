/-
  Contract of tree's bests.
-/
import Derived.Test.YtplgaenfcaphnaaTreeI
import Derived.BigRegion
import Derived.Deep.LoopGhost
namespace Go.Proofs.Ytplgaenfcaphnaa.LanP
open Go.RowKit Go.Sort Go.Proofs.Ytplgaenfcaphnaa.SliceP Go.Proofs.Ytplgaenfcaphnaa.BoxP
open Go.Proofs.Ytplgaenfcaphnaa.IntP (RowI SlI OwnI)
open Go.Proofs.Ytplgaenfcaphnaa.BoolP (RowB SlB OwnB)
open Go.Proofs.Ytplgaenfcaphnaa.MacP (arr_out)
set_option linter.unusedVariables false
set_option maxRecDepth 100000
theorem zv_pair (w : World) : (zeroValue 33).run Try.prog w = .ok (.agg #[.int .i64 0, .int .i64 0]) w := by kernel_rfl
theorem zv_bool (w : World) : (zeroValue 4).run Try.prog w = .ok (.bool false) w := by kernel_rfl
theorem own_low {w w' : World} {B m : Nat} {e : TypeId} {sz : Nat} {v : Value} {xs : List (List Value)} (h : Own w B e sz v xs) (hb : Below m w w') (hm : ∀ k, v.ownBlock = some k → k < m) : Own w' B e sz v xs :=
  own_stay (S := fun b => m ≤ b) h ⟨hb.os, hb.tape, hb.output, hb.size, fun k _ hk => hb.block k (by omega)⟩ (fun b hb2 h2 => by have := hm b hb2; omega)
theorem bx_low {w w' : World} {b m : Nat} {T : TypeId} {vals : Array Value} (h : Bx w b T vals) (hb : Below m w w') (hm : b < m) : Bx w' b T vals := (hb.block b hm).trans h
theorem hp_kept {w w' : World} {b g : Nat} {h : List Wy} {A : Option Addr} {c : Nat} (H : Hp w b h A c) (hg : w.grownBy w' (some g)) (hb : g < b) : Hp w' b h A c :=
  ⟨H.bx.grown hg (fun e => by have := Option.some.inj e; omega), H.own.kept hg (.inr (fun e => by have := (H.own.lt _ e).1; omega))⟩
theorem Row.stay {α : Type} {g : α → List Value} {sz : Nat} {w w' : World} {A : Option Addr} {n c : Nat} {l : List α} {S : Nat → Prop} (h : Row g sz w A n c l) (k : Stay S w w') (hn : ∀ a, A = some a → ¬ S a.block) : Row g sz w' A n c l := ⟨h.len, k.sl h.sl hn, h.cap, h.nil, h.mx⟩
theorem blk_own {α : Type} {g : α → List Value} {w : World} {b n sz : Nat} {e : TypeId} {z : α} (h : Blk w b e (List.replicate n (g z))) (h1 : (g z).length = sz) (h2 : ∀ u ∈ g z, u.oneCell' = true) (hn : n ≤ 1000000) : Own w b e sz (.slice (some ⟨b, 0, none⟩) n n) ((List.replicate n z).map g) := by
  have := Blk.own (n := n) h (Whole.replicate h1 h2 n) (Nat.le_refl _) (by simp) (by simp; unfold maxLen; omega)
  rw [List.take_of_length_le (by simp), List.length_replicate] at this
  rw [List.map_replicate]
  exact this
theorem alones_succ (l : L) (k : Nat) : alones l (k + 1) = alones l k ++ [Wy.al k (pl l k).id] := by unfold alones; rw [List.range_succ, List.map_append]; rfl
theorem unk_all (n : Nat) : unk (List.replicate n false) = n := by unfold unk; rw [List.countP_replicate]; simp
theorem ahead_bd {l : L} (hs : Small l) (b : Nat) (k : Bst) : (aheadL l b k).length ≤ 800 := by
  have := ahead_len hs.plans hs.ports b k (pl l b).ports.length
  rwa [List.take_length] at this
set_option maxHeartbeats 32000000 in
theorem o_bests {l : L} {A : Option Addr} {c : Nat} {B : Option Addr} {d : Nat} {w : World} (hr : LanR w l A c B d) (hs : Small l) (ho : l.ok = true) :
    Calls Try.prog 26 #[lv l A c B d] w (Ret hc 33 2 w l.bs) := by
  have HL := Lib.hid hr
  have H := Lib.hid hr.plans
  have HS := Lib.hid hs
  have HO := Lib.hid ho
  have HF := Lib.hid (ok_fine ho)
  have hn8 := hs.plans
  obtain ⟨w0, hw0, X0, R0, B0⟩ := new3 w hr
  clear hr hs R0 ho
  obtain ⟨w1, hmk1, hbk1, hb1, hs1⟩ := run_make_blk (P := Try.prog) w0 65 elE zv_pair (size := 2) rfl l.plans.length (by omega)
  obtain ⟨w2, hmk2, hbk2, hb2, hs2⟩ := run_make_blk (P := Try.prog) w1 44 BoolP.elB zv_bool (size := 1) rfl l.plans.length (by omega)
  obtain ⟨g1, hg1⟩ : ∃ g, w0.heap.size = g := ⟨_, rfl⟩
  obtain ⟨g2, hg2⟩ : ∃ g, w1.heap.size = g := ⟨_, rfl⟩
  obtain ⟨gO, hgO⟩ : ∃ g, w2.heap.size = g := ⟨_, rfl⟩
  rw [hg1] at hmk1 hbk1
  rw [hg2] at hmk2 hbk2
  have ob1 : Own w1 g1 33 2 (.slice (some ⟨g1, 0, none⟩) l.plans.length l.plans.length) ((List.replicate l.plans.length ((0 : Int), (0 : Int))).map hc) := blk_own hbk1 rfl (fun u hu => by simp at hu; rcases hu with rfl | rfl <;> rfl) (by omega)
  have ok2 : Own w2 g2 4 1 (.slice (some ⟨g2, 0, none⟩) l.plans.length l.plans.length) ((List.replicate l.plans.length false).map bc) := blk_own hbk2 rfl (fun u hu => by simp at hu; subst hu; rfl) (by omega)
  obtain ⟨w3, hw3⟩ : ∃ W, W = w2.alloc (.cells #[.slice none 0 0] 86) := ⟨_, rfl⟩
  have hb3 : Below w2.heap.size w2 w3 := by rw [hw3]; exact (Below.refl _ _).alloc (Nat.le_refl _) _
  have Hw3 := Lib.hid (show Hp w3 gO [] none 0 from ⟨by rw [hw3, ← hgO]; exact Bx.new _ _ _ rfl, Own.nil _ _ _ _⟩)
  have hgg := Lib.hid (show w.heap.size < g1 ∧ g1 < g2 ∧ g2 < gO by have := X0.lt; omega)
  have obw3 := Lib.hid ((ob1.below hb2).below hb3)
  have okw3 := Lib.hid (ok2.below hb3)
  have Xw3 := Lib.hid (((X0.below hb1).below hb2).below hb3)
  have Bw3 := Lib.hid (bt (bt (bt B0 hb1) hb2) hb3)
  have X1h := Lib.hid (X0.below hb1)
  replace X0 := Lib.hid X0
  replace hg1 := Lib.hid hg1
  replace hg2 := Lib.hid hg2
  clear hbk1 hbk2 hb1 hb2 hs1 hs2 ob1 ok2 hb3 B0
  go_enter Try.func26, Try.ntmps26
  go_upto_region 1 with fail
  rw [← hw0]
  have x1 := X0.out.c (i := 1) rfl
  have zx := X0.out.lt
  clear hw0
  go_upto_region 2 with fail
  clear x1 zx hmk1
  have x1 := X1h.out.c (i := 1) rfl
  have zx := X1h.out.lt
  go_upto_region 3 with fail
  clear x1 zx hmk2
  go_upto_region 4 with fail
  rw [← hw3]
  clear hw3
  replace hgO := Lib.hid hgO
  have x1 := Xw3.out.c (i := 1) rfl
  have zx := Xw3.out.lt
  go_wp2_with fail
  clear x1 zx
  go_loopw [22] (fun i wr => ∃ (k : Nat) (h : List Wy) (A' : Option Addr) (c' : Nat), k ≤ l.plans.length ∧ i = .int .i64 k ∧ Hp wr gO h A' c' ∧ HeapN h h.length ∧ h.length = k ∧ (∀ y, y ∈ h ↔ y ∈ alones l k) ∧ Own wr g1 33 2 (.slice (some ⟨g1, 0, none⟩) l.plans.length l.plans.length) ((List.replicate l.plans.length ((0 : Int), (0 : Int))).map hc) ∧ Own wr g2 4 1 (.slice (some ⟨g2, 0, none⟩) l.plans.length l.plans.length) ((List.replicate l.plans.length false).map bc) ∧ Bx wr w.heap.size 25 (lc l A c B d) ∧ Below w.heap.size w wr) (fun i _ => l.plans.length - (intOf i).toNat)
  case atStart => exact ⟨0, [], none, 0, by omega, rfl, Hw3.out, fun i i0 il => by simp at il, rfl, fun y => by simp [alones], obw3.out, okw3.out, Xw3.out, Bw3.out⟩
  case round =>
    clear Hw3 obw3 okw3 Xw3 Bw3
    obtain ⟨k, h, A', c', hk, rfl, hH, hN, hlen, hmem, hob, hok, hX, hb⟩ := hrel
    obtain ⟨wo, hwo⟩ : ∃ W, W = wr := ⟨_, rfl⟩
    subst hwo
    by_cases hkn : k < l.plans.length
    · have hkl : (k : Int) < (l.plans.length : Int) := by omega
      obtain ⟨p, hp⟩ : ∃ p, l.plans[k]? = some p := ⟨_, List.getElem?_eq_getElem hkn⟩
      obtain ⟨bS8, oS8, A8, c8, hAS8, hbS8, q8_0, q8_1, hrow8⟩ := RowP.at_ (H.out.below hb) hp
      subst hAS8
      obtain ⟨w8, hw8⟩ : ∃ W, W = wo.alloc (.cells #[.int .i64 p.id, .slice A8 p.ports.length c8] 61) := ⟨_, rfl⟩
      have bb8 : Below wo.heap.size wo w8 := by rw [hw8]; exact (Below.refl _ _).alloc (Nat.le_refl _) _
      have b8 := Lib.hid (bt hb bb8)
      have X8 := Lib.hid (show Bx w8 wo.heap.size 61 #[.int .i64 p.id, .slice A8 p.ports.length c8] by rw [hw8]; exact Bx.new _ _ _ rfl)
      have R8 := Lib.hid (hrow8.below bb8)
      clear hrow8
      have ob8 := Lib.hid (hob.below bb8)
      have ok8 := Lib.hid (hok.below bb8)
      have X8l := Lib.hid (hX.below bb8)
      have H8l := Lib.hid (hH.below bb8)
      replace hN := Lib.hid hN
      replace hmem := Lib.hid hmem
      have hlen8 := Lib.hid hlen
      have hpp := Lib.hid (show pl l k = p by have := plan_get hkn; rw [hp] at this; exact (Option.some.inj this).symm)
      clear hob hok hX hH hlen
      replace hp := Lib.hid hp
      clear hb bb8
      go_upto_region 7 with fail
      rw [← hw8]
      clear hw8 q8_0 q8_1 hbS8
      have o8_0 := X8.out.c (i := 0) rfl
      have o8_1 := X8.out.c (i := 1) rfl
      have zz8 := X8.out.lt
      have hP : Calls Try.prog 42 #[hpv gO, .iface 89 (.agg #[.int .i64 k, .int .i64 p.id])] w8 _ := o_hpush H8l.out hN.out (Wy.al k p.id) (by have := hlen8.out; omega)
      replace hP := Lib.hid hP
      go_wp2_with fail
      go_at_call 42
      (with_reducible refine hP.out.mono ?_)
      rintro e w9 ⟨rfl, h', A9, c9, hH9, hm9, hN9, hp9⟩
      have bl9 := hp9.below H8l.out (Nat.le_refl _)
      have ob9 := Lib.hid (own_low ob8.out bl9 (fun k hk => by have := Option.some.inj hk; simp only at this; have := hgg.out; omega))
      have ok9 := Lib.hid (own_low ok8.out bl9 (fun k hk => by have := Option.some.inj hk; simp only at this; have := hgg.out; omega))
      have X9 := Lib.hid (bx_low X8l.out bl9 (by have := hgg.out; omega))
      have B9 := Lib.hid (b8.out.trans (bl9.mono (by have := hgg.out; omega)))
      have hl9 := Lib.hid (show h'.length = k + 1 by rw [hm9.len, List.length_append, hlen8.out]; rfl)
      have hm9' := Lib.hid (show ∀ y, y ∈ h' ↔ y ∈ alones l (k + 1) from fun y => by rw [hm9.mem, alones_succ, hpp.out, List.mem_append, List.mem_append, hmem.out])
      replace hH9 := Lib.hid hH9
      replace hN9 := Lib.hid hN9
      clear ob8 ok8 X8l H8l b8 bl9 hp9 hm9 hP X8 o8_0 o8_1 zz8
      go_wp2_with fail
      go_roundw
      case rel => exact ⟨k + 1, h', A9, c9, by omega, by go_num, hH9.out, hN9.out, hl9.out, hm9'.out, ob9.out, ok9.out, X9.out, B9.out⟩
      case measure => simp [intOf]; omega
    · obtain rfl : k = l.plans.length := by omega
      have hD := dij_zero hmem
      have HH := Lib.hid hH
      have hNN := Lib.hid hN
      have obb := Lib.hid hob
      have okk := Lib.hid hok
      have XX := Lib.hid hX
      have BB := Lib.hid hb
      have hll := Lib.hid hlen
      replace hD := Lib.hid hD
      clear hH hN hob hok hX hb hlen hmem
      go_wp2_with fail
      go_loopg [8] (l.plans.length + 801 * l.plans.length) (fun g s8 wr => ∃ (h : List Wy) (A' : Option Addr) (c' : Nat) (kn : List Bool) (be : List Bst), h.length + 801 * unk kn ≤ g ∧ h.length + 801 * unk kn ≤ 7000 ∧ Hp wr gO h A' c' ∧ HeapN h h.length ∧ Dij l kn be h ∧ Own wr g1 33 2 (.slice (some ⟨g1, 0, none⟩) l.plans.length l.plans.length) (be.map hc) ∧ Own wr g2 4 1 (.slice (some ⟨g2, 0, none⟩) l.plans.length l.plans.length) (kn.map bc) ∧ Bx wr w.heap.size 25 (lc l A c B d) ∧ Below w.heap.size w wr)
      case atStart => exact ⟨h, A', c', _, _, by rw [unk_all, hll.out]; omega, by rw [unk_all, hll.out]; omega, HH.out, hNN.out, hD.out, obb.out, okk.out, XX.out, BB.out⟩
      case round =>
        clear HH hNN obb okk XX BB hll hD
        obtain ⟨h, A', c', kn, be, hms, hcap, hH, hN, hD, hob, hok, hX, hb⟩ := hrel
        obtain ⟨wp, hwp⟩ : ∃ W, W = wr := ⟨_, rfl⟩
        subst hwp
        have hcell := hH.bx.c (i := 0) rfl
        have hzO := hH.bx.lt
        have hLn := Lib.hid (fun W => o_len A' h.length c' W)
        obtain ⟨hl, hhl⟩ : ∃ n, h.length = n := ⟨_, rfl⟩
        have hms2 := Lib.hid hms
        have hcap2 := Lib.hid hcap
        clear hms hcap
        cases hl with
        | zero =>
          have hnil : h = [] := List.length_eq_zero_iff.1 hhl
          subst hnil
          have hfin := Lib.hid (dij_end hD)
          replace hob := Lib.hid hob
          replace hb := Lib.hid hb
          clear hH hN hD hok hX hhl
          have hLn0 := Lib.hid (fun W => o_len A' 0 c' W)
          go_wp2_with fail
          go_at_call 43
          (with_reducible refine (hLn0.out _).mono ?_)
          rintro e w11 ⟨rfl, rfl⟩
          go_wp2_with fail
          go_ret
          have hbl : be.length = l.plans.length := by rw [hfin.out]; exact bests_len l _
          refine ⟨some ⟨g1, 0, none⟩, l.plans.length, ?_, ?_, hb.out⟩
          · rw [← hfin.out, hbl]; rfl
          · rw [← hfin.out, hbl]; exact hob.out.base (Nat.le_of_lt hgg.out.1)
        | succ m =>
          have hpos : (0 : Int) < ((m + 1 : Nat) : Int) := by omega
          have hmin := Lib.hid (fun y (hy : y ∈ h) => (by obtain ⟨k, hk, rfl⟩ := mem_at hy; exact heap_min hN k hk : bl (at_ h 0).key y.key))
          have hxm := Lib.hid (at_mem (h := h) (k := 0) (by omega))
          have hP := Lib.hid (fun (W : World) (hW : Below wp.heap.size wp W) => o_hpop (hH.below hW) hN hhl (by have := hcap2.out; omega))
          have hup := hD.up _ hxm.out
          rw [hhl] at hcell hLn
          obtain ⟨x, hx0⟩ : ∃ x, at_ h 0 = x := ⟨_, rfl⟩
          rw [hx0] at hmin hxm hup hP
          obtain ⟨T, V, hxv⟩ := x.iface
          obtain ⟨ff, hmf, hcf, hCf⟩ := o_from hxv
          have has := as_way x
          rw [hxv] at hP has
          have hxl := hup.1
          have hxi : (x.fr : Int) < (l.plans.length : Int) := by omega
          replace hup := Lib.hid hup
          replace hxv := Lib.hid hxv
          replace hhl := Lib.hid hhl
          replace hx0 := Lib.hid hx0
          replace hCf := Lib.hid hCf
          have Hwp := Lib.hid hH
          have obwp := Lib.hid hob
          have okwp := Lib.hid hok
          have Xwp := Lib.hid hX
          have Bwp := Lib.hid hb
          replace hN := Lib.hid hN
          have hkl : kn.length = l.plans.length := hD.ln
          have hblen : be.length = l.plans.length := hD.lb
          replace hD := Lib.hid hD
          replace hkl := Lib.hid hkl
          replace hblen := Lib.hid hblen
          clear hH hob hok hX hb
          go_wp2_with fail
          go_at_call 43
          (with_reducible refine (hLn.out _).mono ?_)
          rintro e w11 ⟨rfl, rfl⟩
          clear hLn
          go_wp2_with fail
          go_at_call 44
          (with_reducible refine (hP.out _ (Below.refl _ _)).mono ?_)
          rintro e w12 ⟨rfl, t, hH12, htl, ht1, ht2, hN12, hp12⟩
          have blw12 := hp12.below Hwp.out (Nat.le_refl _)
          have obw12 := Lib.hid (own_low obwp.out blw12 (fun k hk => by have := Option.some.inj hk; simp only at this; have := hgg.out; omega))
          have okw12 := Lib.hid (own_low okwp.out blw12 (fun k hk => by have := Option.some.inj hk; simp only at this; have := hgg.out; omega))
          have Xw12 := Lib.hid (bx_low Xwp.out blw12 (by have := hgg.out; omega))
          have Bw12 := Lib.hid (Bwp.out.trans (blw12.mono (by have := hgg.out; omega)))
          clear obwp okwp Xwp Bwp blw12
          have H12 := Lib.hid hH12
          replace hN12 := Lib.hid hN12
          replace ht1 := Lib.hid ht1
          replace ht2 := Lib.hid ht2
          replace htl := Lib.hid htl
          clear hH12 hp12 hcell hzO hP Hwp hN
          -- the bool at x.fr
          obtain ⟨kb, hkb⟩ : ∃ kb, kn.getD x.fr false = kb := ⟨_, rfl⟩
          have hkat : kn[x.fr]? = some kb := by rw [← hkb, List.getD_eq_getElem?_getD, List.getElem?_eq_getElem (by rw [hkl.out]; exact hxl)]; rfl
          obtain ⟨bf, hbf⟩ : ∃ bf, x.fr = bf := ⟨_, rfl⟩
          have hCf2 := Lib.hid hCf.out
          rw [hbf] at hCf2 hxi hkb hkat hxl
          have kcell := Lib.hid (fun (W : World) (hW : Below w12.heap.size w12 W) => own_cell (okw12.out.below hW) (by decide) (j := bf) (cs := bc kb) (by rw [List.getElem?_map, hkat]; rfl) (v := .bool kb) (i := 0) rfl)
          replace hkb := Lib.hid hkb
          replace hbf := Lib.hid hbf
          replace hkat := Lib.hid hkat
          simp only [Nat.mul_one, Nat.add_zero] at kcell
          cases kb
          · -- not known yet
            have hbest := Lib.hid (dij_best HF.out.cost hD.out hmin.out hxm.out (by rw [hbf.out]; exact hkb.out))
            obtain ⟨⟨k1, k2⟩, hk9⟩ : ∃ k, x.key = k := ⟨_, rfl⟩
            rw [hk9] at hbest
            have hbb := best_bd HO.out hxl
            rw [← hbf.out, ← hbest.out] at hbb
            replace hbb := Lib.hid hbb
            obtain ⟨fw, ow1, ow2, hmw, hcw, hCw⟩ := o_worth hxv.out
            rw [hk9] at hCw
            replace hCw := Lib.hid hCw
            have kfree := Lib.hid (fun (W : World) (hW : Below w12.heap.size w12 W) => own_free (okw12.out.below hW) bf)
            have bcell := Lib.hid (fun (W : World) (hW : Below w12.heap.size w12 W) => own_free (obw12.out.below hW))
            obtain ⟨bv, hbv⟩ : ∃ v, be[bf]? = some v := ⟨_, List.getElem?_eq_getElem (by rw [hblen.out]; exact hxl)⟩
            have bc0 := Lib.hid (fun (W : World) (hW : Below w12.heap.size w12 W) => own_cell (obw12.out.below hW) (by decide) (j := bf) (cs := hc bv) (by rw [List.getElem?_map, hbv]; rfl) (v := .int .i64 bv.1) (i := 0) rfl)
            have bc1 := Lib.hid (fun (W : World) (hW : Below w12.heap.size w12 W) => own_cell (obw12.out.below hW) (by decide) (j := bf) (cs := hc bv) (by rw [List.getElem?_map, hbv]; rfl) (v := .int .i64 bv.2) (i := 1) rfl)
            simp only [Nat.add_zero] at bc0
            go_upto_region 11 with fail
            go_upto_region 12 with ((with_reducible refine (hCf2.out _).mono ?_); rintro e w13 ⟨rfl, hb13⟩; have kc13 := kcell.out w13 hb13; replace hb13 := Lib.hid hb13)
            clear kc13
            go_upto_region 13 with ((with_reducible refine (hCf2.out _).mono ?_); rintro e w14 ⟨rfl, hb14⟩; have b14 := bt hb13.out hb14; have kc14 := kcell.out w14 b14; have kf14 := (kfree.out w14 b14).1; have kz14 := (kfree.out w14 b14).2; replace hb14 := Lib.hid b14; clear b14)
            obtain ⟨wA, hwA⟩ : ∃ W, W = w14.setCell ⟨g2, bf, none⟩ (.bool true) := ⟨_, rfl⟩
            have grA : w14.grownBy wA (some g2) := by rw [hwA]; exact setCell_grown _ _ _ _
            have okA := Lib.hid (show Own wA g2 4 1 (.slice (some ⟨g2, 0, none⟩) l.plans.length l.plans.length) ((kn.set bf true).map bc) by rw [hwA, List.map_set]; exact own_put1 (okw12.out.below hb14.out) (by rw [List.length_map, hkl.out]; exact hxl) rfl)
            have obA := Lib.hid ((obw12.out.below hb14.out).kept grA (.inr (fun e => by have := Option.some.inj e; simp only at this; have := hgg.out; omega)))
            have XA := Lib.hid ((Xw12.out.below hb14.out).grown grA (fun e => by have := Option.some.inj e; have := hgg.out; omega))
            have BA := Lib.hid ((bt Bw12.out hb14.out).grown grA (bt Bw12.out hb14.out).size (fun k hk => by have := Option.some.inj hk; have := hgg.out; omega))
            have HA := Lib.hid (hp_kept (H12.out.below hb14.out) grA (by have := hgg.out; omega))
            rw [← hwA]
            clear hwA grA kc14 kf14 kz14 hb13 hb14 okw12 obw12 Xw12 Bw12 H12 kfree bcell bc0 bc1 kcell
            have gfree := Lib.hid (fun (W : World) (hW : Below wA.heap.size wA W) => own_free (obA.out.below hW))
            have bc0 := Lib.hid (fun (W : World) (hW : Below wA.heap.size wA W) => own_cell (obA.out.below hW) (by decide) (j := bf) (cs := hc bv) (by rw [List.getElem?_map, hbv]; rfl) (v := .int .i64 bv.1) (i := 0) rfl)
            have bc1 := Lib.hid (fun (W : World) (hW : Below wA.heap.size wA W) => own_cell (obA.out.below hW) (by decide) (j := bf) (cs := hc bv) (by rw [List.getElem?_map, hbv]; rfl) (v := .int .i64 bv.2) (i := 1) rfl)
            simp only [Nat.add_zero] at bc0
            replace hbv := Lib.hid hbv
            go_upto_region 14 with (first
              | ((with_reducible refine (hCf2.out _).mono ?_); rintro e w15 ⟨rfl, hb15⟩; replace hb15 := Lib.hid hb15)
              | ((with_reducible refine (hCw.out _).mono ?_); rintro e w16 ⟨rfl, hw16⟩
                 have b16 : Below wA.heap.size wA w16 := bt hb15.out (by rw [hw16]; exact ((Below.refl _ _).alloc (Nat.le_refl _) _).alloc (by simp) _)
                 have t0 := bc0.out w16 b16
                 have t1 := bc1.out w16 b16
                 have tf0 := (gfree.out w16 b16 (bf * 2)).1
                 have tf1 := (gfree.out w16 b16 (bf * 2 + 1)).1
                 have tz := (gfree.out w16 b16 0).2
                 replace hb15 := Lib.hid b16
                 clear hw16 b16))
            clear t0 t1 tf0 tf1 tz gfree bc0 bc1
            obtain ⟨wB, hwB⟩ : ∃ W, W = (w16.setCell ⟨g1, bf * 2, none⟩ (.int .i64 k1)).setCell ⟨g1, bf * 2 + 1, none⟩ (.int .i64 k2) := ⟨_, rfl⟩
            have grB : w16.grownBy wB (some g1) := by rw [hwB]; exact (setCell_grown _ _ _ _).trans (setCell_grown _ _ _ _)
            have obB := Lib.hid (show Own wB g1 33 2 (.slice (some ⟨g1, 0, none⟩) l.plans.length l.plans.length) ((be.set bf (k1, k2)).map hc) by rw [hwB, List.map_set]; exact own_put2 (obA.out.below hb15.out) (by rw [List.length_map, hblen.out]; exact hxl) rfl rfl)
            have okB := Lib.hid ((okA.out.below hb15.out).kept grB (.inr (fun e => by have := Option.some.inj e; simp only at this; have := hgg.out; omega)))
            have XB := Lib.hid ((XA.out.below hb15.out).grown grB (fun e => by have := Option.some.inj e; have := hgg.out; omega))
            have BB := Lib.hid ((bt BA.out hb15.out).grown grB (bt BA.out hb15.out).size (fun k hk => by have := Option.some.inj hk; have := hgg.out; omega))
            have HB := Lib.hid (hp_kept (HA.out.below hb15.out) grB (by have := hgg.out; omega))
            rw [← hwB]
            clear hwB grB hb15 okA obA XA BA HA
            have hAH : Calls Try.prog 45 #[lv l A c B d, .iface T V] wB _ := (by have := o_ahead (HL.out.below BB.out) HS.out HO.out (x := x) (by rw [hbf.out]; exact hxl) (by rw [hk9]; exact ⟨hbb.out.1, Int.le_trans hbb.out.2 (by decide)⟩); rw [hxv.out] at this; exact this)
            replace hAH := Lib.hid hAH
            have x0 := XB.out.c (i := 0) rfl
            have x1 := XB.out.c (i := 1) rfl
            have x2 := XB.out.c (i := 2) rfl
            have zx := XB.out.lt
            go_wp2_with fail
            go_at_call 45
            (with_reducible refine hAH.out.mono ?_)
            rintro e w17 ⟨AR, cR, rfl, oR, hb17⟩
            obtain ⟨R, hR⟩ : ∃ R, aheadL l x.fr x.key = R := ⟨_, rfl⟩
            rw [hR] at oR ⊢
            have hRl := Lib.hid (show R.length ≤ 800 by rw [← hR]; exact ahead_bd HS.out _ _)
            have hoff := Lib.hid (show ∀ a, AR = some a → ¬ Hs2 gO A' a.block from fun a ha hq => by
              have h1 := (own_far oR a ha).1
              rcases hq with hq | ⟨a0, h0, hq⟩
              · have := HB.out.bx.lt; omega
              · have := (own_far HB.out.own a0 h0).2; omega)
            have hRlt := Lib.hid (show ∀ a, AR = some a → a.block < w17.heap.size from fun a ha => (own_far oR a ha).2)
            have RR := Lib.hid (Row.own oR (by decide))
            have obC := Lib.hid (obB.out.below hb17)
            have okC := Lib.hid (okB.out.below hb17)
            have XC := Lib.hid (XB.out.below hb17)
            have BC := Lib.hid (bt BB.out hb17)
            have HC := Lib.hid (HB.out.below hb17)
            replace hR := Lib.hid hR
            have hRm := Lib.hid RR.out.mx
            have hRc := Lib.hid RR.out.cap
            clear oR hb17 obB okB XB BB HB x0 x1 x2 zx hAH
            obtain ⟨wq, hwq⟩ : ∃ W, W = w17 := ⟨_, rfl⟩
            subst hwq
            go_wp2_with fail
            go_loopw [60] (fun i wi => ∃ (j : Nat) (h2 : List Wy) (A2 : Option Addr) (c2 : Nat), j ≤ R.length ∧ i = .int .i64 j ∧ Hp wi gO h2 A2 c2 ∧ HeapN h2 h2.length ∧ h2.length = m + j ∧ (∀ y, y ∈ h2 ↔ y ∈ t ∨ y ∈ R.take j) ∧ Row wc 1 wi AR R.length cR R ∧ (∀ a, AR = some a → a.block < wi.heap.size ∧ ¬ Hs2 gO A2 a.block) ∧ Own wi g1 33 2 (.slice (some ⟨g1, 0, none⟩) l.plans.length l.plans.length) ((be.set bf (k1, k2)).map hc) ∧ Own wi g2 4 1 (.slice (some ⟨g2, 0, none⟩) l.plans.length l.plans.length) ((kn.set bf true).map bc) ∧ Bx wi w.heap.size 25 (lc l A c B d) ∧ Below w.heap.size w wi) (fun i _ => R.length - (intOf i).toNat)
            case atStart => exact ⟨0, t, A', c', by omega, rfl, HC.out, hN12.out, by rw [htl.out]; rfl, fun y => by simp, RR.out, fun a ha => ⟨hRlt.out a ha, hoff.out a ha⟩, obC.out, okC.out, XC.out, BC.out⟩
            case round =>
              clear HC RR obC okC XC BC hoff hRlt
              obtain ⟨j, h2, A2, c2, hj, rfl, hH, hN, hlen, hmem, hRow, hof, hob, hok, hX, hb⟩ := hrel
              obtain ⟨wi, hwi⟩ : ∃ W, W = wr := ⟨_, rfl⟩
              subst hwi
              by_cases hjn : j < R.length
              · have hjl : (j : Int) < (R.length : Int) := by omega
                have hj8 : j < 1000 := by have := hRl.out; omega
                obtain ⟨y, hy⟩ : ∃ y, R[j]? = some y := ⟨_, List.getElem?_eq_getElem hjn⟩
                obtain ⟨bS, oS, hAS, hbS, r0⟩ := Row.wat hRow hy
                subst hAS
                obtain ⟨T2, V2, hyv⟩ := y.iface
                rw [hyv] at r0
                have hP : Calls Try.prog 42 #[hpv gO, .iface T2 V2] wi _ := (by have := o_hpush hH hN y (by have := htl.out; have := hRl.out; have := hcap2.out; have := hhl.out; omega); rw [hyv] at this; exact this)
                replace hP := Lib.hid hP
                have Hwi := Lib.hid hH
                have obwi := Lib.hid hob
                have okwi := Lib.hid hok
                have Xwi := Lib.hid hX
                have Bwi := Lib.hid hb
                have Rwi := Lib.hid hRow
                replace hof := Lib.hid hof
                replace hmem := Lib.hid hmem
                replace hlen := Lib.hid hlen
                replace hy := Lib.hid hy
                replace hyv := Lib.hid hyv
                clear hH hN hob hok hX hb hRow
                go_wp2_with fail
                go_at_call 42
                (with_reducible refine hP.out.mono ?_)
                rintro e w20 ⟨rfl, h3, A3, c3, hH3, hm3, hN3, hp3⟩
                have blw20 := hp3.below Hwi.out (Nat.le_refl _)
                have obw20 := Lib.hid (own_low obwi.out blw20 (fun k hk => by have := Option.some.inj hk; simp only at this; have := hgg.out; omega))
                have okw20 := Lib.hid (own_low okwi.out blw20 (fun k hk => by have := Option.some.inj hk; simp only at this; have := hgg.out; omega))
                have Xw20 := Lib.hid (bx_low Xwi.out blw20 (by have := hgg.out; omega))
                have Bw20 := Lib.hid (Bwi.out.trans (blw20.mono (by have := hgg.out; omega)))
                clear obwi okwi Xwi Bwi blw20
                have R20 := Lib.hid (Rwi.out.stay hp3.st (fun a ha => (hof.out a ha).2))
                have hof20 := Lib.hid (show ∀ a, (some (⟨bS, oS, none⟩ : Addr)) = some a → a.block < w20.heap.size ∧ ¬ Hs2 gO A3 a.block from fun a ha => ⟨Nat.lt_of_lt_of_le (hof.out a ha).1 hp3.st.size, hp3.off (hof.out a ha).1 (hof.out a ha).2⟩)
                have hm20 := Lib.hid (show ∀ z, z ∈ h3 ↔ z ∈ t ∨ z ∈ R.take (j + 1) from fun z => by rw [hm3.mem, List.mem_append, hmem.out, List.take_add_one, hy.out, List.mem_append, or_assoc]; simp)
                have hl20 := Lib.hid (show h3.length = m + (j + 1) by rw [hm3.len, List.length_append, hlen.out]; simp; omega)
                replace hH3 := Lib.hid hH3
                replace hN3 := Lib.hid hN3
                clear hm3 hp3 hP r0 hbS Hwi
                go_wp2_with fail
                go_roundw
                case rel => exact ⟨j + 1, h3, A3, c3, by omega, by go_num, hH3.out, hN3.out, hl20.out, hm20.out, R20.out, hof20.out, obw20.out, okw20.out, Xw20.out, Bw20.out⟩
                case measure => simp [intOf]; omega
              · obtain rfl : j = R.length := by omega
                rw [List.take_length] at hmem
                have hhD := Lib.hid (by have := dij_take HF.out.cost (fun p hp x hx => by have := ok_lk HO.out p hp x hx; omega) hD.out ht1.out ht2.out (r := h2) (by rw [hbf.out]; exact hxl) (by rw [hbf.out]; exact hkb.out) (by rw [hk9]; exact hbest.out) (by intro z; rw [hR.out]; exact hmem z); rw [hbf.out, hk9] at this; exact this : Dij l (kn.set bf true) (be.set bf (k1, k2)) h2)
                have hun := Lib.hid (unk_set (kn := kn) (b := bf) (by rw [hkl.out]; exact hxl) hkb.out)
                replace hH := Lib.hid hH
                replace hN := Lib.hid hN
                replace hob := Lib.hid hob
                replace hok := Lib.hid hok
                replace hX := Lib.hid hX
                replace hb := Lib.hid hb
                replace hlen := Lib.hid hlen
                clear hRow hof hmem
                go_wp2_with fail
                go_roundg (h2.length + 801 * unk (kn.set bf true))
                case measure => have := hms2.out; have := hhl.out; have := hlen.out; have := hun.out; have := hRl.out; omega
                case rel => exact ⟨h2, A2, c2, _, _, Nat.le_refl _, by have := hcap2.out; have := hhl.out; have := hlen.out; have := hun.out; have := hRl.out; omega, hH.out, hN.out, hhD.out, hob.out, hok.out, hX.out, hb.out⟩
          · -- known already
            have hD2 := Lib.hid (dij_skip hD.out ht1.out ht2.out (by rw [hbf.out]; exact hkb.out))
            go_wp2_with ((with_reducible refine (hCf2.out _).mono ?_); rintro e w13 ⟨rfl, hb13⟩; have kc13 := kcell.out w13 hb13; replace hb13 := Lib.hid hb13)
            go_roundg (t.length + 801 * unk kn)
            case measure => have := hms2.out; have := htl.out; have := hhl.out; omega
            case rel => exact ⟨t, A', c', kn, be, Nat.le_refl _, by have := hcap2.out; have := htl.out; have := hhl.out; omega, H12.out.below hb13.out, hN12.out, hD2.out, obw12.out.below hb13.out, okw12.out.below hb13.out, Xw12.out.below hb13.out, bt Bw12.out hb13.out⟩
end Go.Proofs.Ytplgaenfcaphnaa.LanP
