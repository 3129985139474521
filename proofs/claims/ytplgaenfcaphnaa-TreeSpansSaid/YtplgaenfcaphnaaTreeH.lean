/-
  Contracts of container/heap's down, Pop.
-/
import Derived.Test.YtplgaenfcaphnaaTreeC
namespace Go.Proofs.Ytplgaenfcaphnaa.LanP
open Go.RowKit Go.Sort Go.Proofs.Ytplgaenfcaphnaa.SliceP Go.Proofs.Ytplgaenfcaphnaa.BoxP
set_option linter.unusedVariables false
set_option maxRecDepth 100000
theorem swp_keep {h : List Wy} {i j n : Nat} (hi : i < n) (hj : j < n) (hn : n < h.length) : at_ (swp h i j) n = at_ h n := by
  rw [swp_at h (by omega) (by omega), if_neg (by omega), if_neg (by omega)]
def BoolRet (e : Ending) : Prop := ∃ r, e = .returned (.bool r)
set_option maxHeartbeats 16000000 in
theorem o_down {w : World} {b : Nat} {h : List Wy} {A : Option Addr} {c : Nat} (H : Hp w b h A c) {n : Nat} (hn : h.length = n + 1) (hd : DnI h 0 n) (hl : h.length ≤ 1000000) :
    Calls Try.prog 63 #[hpv b, .int .i64 0, .int .i64 n] w fun e w' => BoolRet e ∧ ∃ h', Hp w' b h' A c ∧ Mix h h' ∧ HeapN h' n ∧ at_ h' n = at_ h n ∧ Hop w w' b A A := by
  have H0 := Lib.hid H
  replace hd := Lib.hid hd
  replace hn := Lib.hid hn
  clear H
  go_enter Try.func63, Try.ntmps63
  go_wp2_with fail
  go_loopw [7] (fun v wr => ∃ (k : Nat) (h' : List Wy), v = .int .i64 k ∧ k ≤ n ∧ Hp wr b h' A c ∧ Mix h h' ∧ DnI h' k n ∧ at_ h' n = at_ h n ∧ Hop w wr b A A) (fun v _ => n - (intOf v).toNat)
  case atStart => exact ⟨0, h, rfl, Nat.zero_le _, H0.out, Mix.refl _, hd.out, rfl, Hop.of (Below.refl _ _)⟩
  case round =>
    obtain ⟨k, h', rfl, hk, H, hm, hd2, hlast, hp⟩ := hrel
    obtain ⟨wo, hwo⟩ : ∃ W, W = wr := ⟨_, rfl⟩
    subst hwo
    have hlen := Lib.hid (show h'.length = n + 1 by rw [hm.len]; exact hn.out)
    have hnl : n < 1000000 := by have := hn.out; omega
    replace hlast := Lib.hid hlast
    replace hm := Lib.hid hm
    replace hd2 := Lib.hid hd2
    have hpwo := Lib.hid hp
    have Hwo := Lib.hid H
    clear hp H
    by_cases h1 : 2 * k + 1 < n
    · have p4 : ¬ ((n : Int) ≤ 2 * (k : Int) + 1) := by omega
      by_cases h2 : 2 * k + 2 < n
      · have p6 : 2 * (k : Int) + 1 + 1 < (n : Int) := by omega
        have k1 := Lib.hid (show 2 * k + 1 < h'.length by have := hlen.out; omega)
        have k2 := Lib.hid (show 2 * k + 2 < h'.length by have := hlen.out; omega)
        obtain ⟨bb, hbb⟩ : ∃ bb, btr (ky h' (2 * k + 2)) (ky h' (2 * k + 1)) = bb := ⟨_, rfl⟩
        have hL := Lib.hid (o_less Hwo.out.row k2.out k1.out hbb)
        rw [show ((2 * k + 2 : Nat) : Int) = 2 * (k : Int) + 1 + 1 by omega, show ((2 * k + 1 : Nat) : Int) = 2 * (k : Int) + 1 by omega] at hL
        have l1 := m_less (Hwo.out.bx.c (i := 0) rfl)
        replace hbb := Lib.hid hbb
        cases bb
        · have K := Lib.hid (kid_left (h := h') (i := k) (n := n) h1 hbb.out)
          go_upto_region 8 with (go_at_call 104; (with_reducible refine hL.out.mono ?_); rintro e w7 ⟨rfl, hb7⟩; have hpw7 := Lib.hid (hpwo.out.trans (Hop.of hb7)); have Hw7 := Lib.hid (Hwo.out.below hb7); clear hb7)
          clear l1
          have je : (((2 * k + 1) : Nat) : Int) = 2 * (k : Int) + 1 := by omega
          have jl := Lib.hid (show (2 * k + 1) < h'.length by have := K.out.lt; have := hlen.out; omega)
          have il := Lib.hid (show k < h'.length by have := hlen.out; omega)
          obtain ⟨cc, hcc⟩ : ∃ cc, btr (ky h' ((2 * k + 1))) (ky h' k) = cc := ⟨_, rfl⟩
          have hL2 := Lib.hid (fun W (hW : Below w7.heap.size w7 W) => o_less (Hw7.out.below hW).row jl.out il.out hcc)
          have l2 := m_less (Hw7.out.bx.c (i := 0) rfl)
          have hS := Lib.hid (fun W (hW : Below w7.heap.size w7 W) => o_swap (Hw7.out.below hW).own il.out jl.out)
          have hM := Lib.hid (fun W (hW : Below w7.heap.size w7 W) => m_swap ((Hw7.out.below hW).bx.c (i := 0) rfl))
          rw [je] at hL2 hS
          replace je := Lib.hid je
          replace hcc := Lib.hid hcc
          cases cc
          · have hh := Lib.hid (dn_end hd2.out K.out hcc.out)
            go_wp2_with fail
            go_at_call 104
            (with_reducible refine (hL2.out _ (Below.refl _ _)).mono ?_)
            rintro e w8 ⟨rfl, hb8⟩
            have hp8 := Lib.hid (hpw7.out.trans (Hop.of hb8))
            have H8 := Lib.hid (Hw7.out.below hb8)
            clear hb8 l2 hM hS
            go_wp2_with fail
            refine bodyPost_ret (v := .bool (decide (0 < k))) (by simp [results, Try.results63, go_sem]) rfl ⟨⟨_, rfl⟩, h', H8.out, hm.out, hh.out, hlast.out, hp8.out⟩
          · go_wp2_with fail
            go_at_call 104
            (with_reducible refine (hL2.out _ (Below.refl _ _)).mono ?_)
            rintro e w8 ⟨rfl, hb8⟩
            have hp8 := Lib.hid (hpw7.out.trans (Hop.of hb8))
            have H8 := Lib.hid (Hw7.out.below hb8)
            have l3 := hM.out w8 hb8
            have hS8 := Lib.hid (hS.out w8 hb8)
            clear hb8 l2 hM hS
            go_wp2_with fail
            go_at_call 105
            (with_reducible refine hS8.out.mono ?_)
            rintro e w9 ⟨rfl, o9, g, hg, hgr⟩
            have hp9 := Lib.hid (hp8.out.trans (hop_grown (b := b) hg hgr))
            have H9 := Lib.hid (H8.out.swapped (swp_len _ _ _) hg o9 hgr)
            have hm9 := Lib.hid (hm.out.swp il.out jl.out)
            have hd9 := Lib.hid (dn_step (by have := hlen.out; omega) hd2.out K.out hcc.out)
            have hla := Lib.hid ((swp_keep (h := h') (i := k) (j := (2 * k + 1)) (n := n) (by have := K.out.lt; have := K.out.up; have := K.out.pos; omega) K.out.lt (by have := hlen.out; omega)).trans hlast.out)
            have hlt : k < (2 * k + 1) := by have := K.out.up; have := K.out.pos; omega
            have hjn : (2 * k + 1) ≤ n := by have := K.out.lt; omega
            clear l3 hgr hg o9
            go_wp2_with fail
            go_roundw
            case rel => exact ⟨(2 * k + 1), _, by rw [je.out], hjn, H9.out, hm9.out, hd9.out, hla.out, hp9.out⟩
            case measure => simp [intOf]; omega
        · have K := Lib.hid (kid_right (h := h') (i := k) (n := n) h2 hbb.out)
          go_upto_region 7 with (go_at_call 104; (with_reducible refine hL.out.mono ?_); rintro e w7 ⟨rfl, hb7⟩; have hpw7 := Lib.hid (hpwo.out.trans (Hop.of hb7)); have Hw7 := Lib.hid (Hwo.out.below hb7); clear hb7)
          clear l1
          have je : (((2 * k + 2) : Nat) : Int) = 2 * (k : Int) + 1 + 1 := by omega
          have jl := Lib.hid (show (2 * k + 2) < h'.length by have := K.out.lt; have := hlen.out; omega)
          have il := Lib.hid (show k < h'.length by have := hlen.out; omega)
          obtain ⟨cc, hcc⟩ : ∃ cc, btr (ky h' ((2 * k + 2))) (ky h' k) = cc := ⟨_, rfl⟩
          have hL2 := Lib.hid (fun W (hW : Below w7.heap.size w7 W) => o_less (Hw7.out.below hW).row jl.out il.out hcc)
          have l2 := m_less (Hw7.out.bx.c (i := 0) rfl)
          have hS := Lib.hid (fun W (hW : Below w7.heap.size w7 W) => o_swap (Hw7.out.below hW).own il.out jl.out)
          have hM := Lib.hid (fun W (hW : Below w7.heap.size w7 W) => m_swap ((Hw7.out.below hW).bx.c (i := 0) rfl))
          rw [je] at hL2 hS
          replace je := Lib.hid je
          replace hcc := Lib.hid hcc
          cases cc
          · have hh := Lib.hid (dn_end hd2.out K.out hcc.out)
            go_wp2_with fail
            go_at_call 104
            (with_reducible refine (hL2.out _ (Below.refl _ _)).mono ?_)
            rintro e w8 ⟨rfl, hb8⟩
            have hp8 := Lib.hid (hpw7.out.trans (Hop.of hb8))
            have H8 := Lib.hid (Hw7.out.below hb8)
            clear hb8 l2 hM hS
            go_wp2_with fail
            refine bodyPost_ret (v := .bool (decide (0 < k))) (by simp [results, Try.results63, go_sem]) rfl ⟨⟨_, rfl⟩, h', H8.out, hm.out, hh.out, hlast.out, hp8.out⟩
          · go_wp2_with fail
            go_at_call 104
            (with_reducible refine (hL2.out _ (Below.refl _ _)).mono ?_)
            rintro e w8 ⟨rfl, hb8⟩
            have hp8 := Lib.hid (hpw7.out.trans (Hop.of hb8))
            have H8 := Lib.hid (Hw7.out.below hb8)
            have l3 := hM.out w8 hb8
            have hS8 := Lib.hid (hS.out w8 hb8)
            clear hb8 l2 hM hS
            go_wp2_with fail
            go_at_call 105
            (with_reducible refine hS8.out.mono ?_)
            rintro e w9 ⟨rfl, o9, g, hg, hgr⟩
            have hp9 := Lib.hid (hp8.out.trans (hop_grown (b := b) hg hgr))
            have H9 := Lib.hid (H8.out.swapped (swp_len _ _ _) hg o9 hgr)
            have hm9 := Lib.hid (hm.out.swp il.out jl.out)
            have hd9 := Lib.hid (dn_step (by have := hlen.out; omega) hd2.out K.out hcc.out)
            have hla := Lib.hid ((swp_keep (h := h') (i := k) (j := (2 * k + 2)) (n := n) (by have := K.out.lt; have := K.out.up; have := K.out.pos; omega) K.out.lt (by have := hlen.out; omega)).trans hlast.out)
            have hlt : k < (2 * k + 2) := by have := K.out.up; have := K.out.pos; omega
            have hjn : (2 * k + 2) ≤ n := by have := K.out.lt; omega
            clear l3 hgr hg o9
            go_wp2_with fail
            go_roundw
            case rel => exact ⟨(2 * k + 2), _, by rw [je.out], hjn, H9.out, hm9.out, hd9.out, hla.out, hp9.out⟩
            case measure => simp [intOf]; omega
      · have p6 : ¬ (2 * (k : Int) + 1 + 1 < (n : Int)) := by omega
        have K := Lib.hid (kid_one (h := h') (i := k) (n := n) h1 h2)
        have je : (((2 * k + 1) : Nat) : Int) = 2 * (k : Int) + 1 := by omega
        have jl := Lib.hid (show (2 * k + 1) < h'.length by have := K.out.lt; have := hlen.out; omega)
        have il := Lib.hid (show k < h'.length by have := hlen.out; omega)
        obtain ⟨cc, hcc⟩ : ∃ cc, btr (ky h' ((2 * k + 1))) (ky h' k) = cc := ⟨_, rfl⟩
        have hL2 := Lib.hid (fun W (hW : Below wo.heap.size wo W) => o_less (Hwo.out.below hW).row jl.out il.out hcc)
        have l2 := m_less (Hwo.out.bx.c (i := 0) rfl)
        have hS := Lib.hid (fun W (hW : Below wo.heap.size wo W) => o_swap (Hwo.out.below hW).own il.out jl.out)
        have hM := Lib.hid (fun W (hW : Below wo.heap.size wo W) => m_swap ((Hwo.out.below hW).bx.c (i := 0) rfl))
        rw [je] at hL2 hS
        replace je := Lib.hid je
        replace hcc := Lib.hid hcc
        cases cc
        · have hh := Lib.hid (dn_end hd2.out K.out hcc.out)
          go_wp2_with fail
          go_at_call 104
          (with_reducible refine (hL2.out _ (Below.refl _ _)).mono ?_)
          rintro e w8 ⟨rfl, hb8⟩
          have hp8 := Lib.hid (hpwo.out.trans (Hop.of hb8))
          have H8 := Lib.hid (Hwo.out.below hb8)
          clear hb8 l2 hM hS
          go_wp2_with fail
          refine bodyPost_ret (v := .bool (decide (0 < k))) (by simp [results, Try.results63, go_sem]) rfl ⟨⟨_, rfl⟩, h', H8.out, hm.out, hh.out, hlast.out, hp8.out⟩
        · go_wp2_with fail
          go_at_call 104
          (with_reducible refine (hL2.out _ (Below.refl _ _)).mono ?_)
          rintro e w8 ⟨rfl, hb8⟩
          have hp8 := Lib.hid (hpwo.out.trans (Hop.of hb8))
          have H8 := Lib.hid (Hwo.out.below hb8)
          have l3 := hM.out w8 hb8
          have hS8 := Lib.hid (hS.out w8 hb8)
          clear hb8 l2 hM hS
          go_wp2_with fail
          go_at_call 105
          (with_reducible refine hS8.out.mono ?_)
          rintro e w9 ⟨rfl, o9, g, hg, hgr⟩
          have hp9 := Lib.hid (hp8.out.trans (hop_grown (b := b) hg hgr))
          have H9 := Lib.hid (H8.out.swapped (swp_len _ _ _) hg o9 hgr)
          have hm9 := Lib.hid (hm.out.swp il.out jl.out)
          have hd9 := Lib.hid (dn_step (by have := hlen.out; omega) hd2.out K.out hcc.out)
          have hla := Lib.hid ((swp_keep (h := h') (i := k) (j := (2 * k + 1)) (n := n) (by have := K.out.lt; have := K.out.up; have := K.out.pos; omega) K.out.lt (by have := hlen.out; omega)).trans hlast.out)
          have hlt : k < (2 * k + 1) := by have := K.out.up; have := K.out.pos; omega
          have hjn : (2 * k + 1) ≤ n := by have := K.out.lt; omega
          clear l3 hgr hg o9
          go_wp2_with fail
          go_roundw
          case rel => exact ⟨(2 * k + 1), _, by rw [je.out], hjn, H9.out, hm9.out, hd9.out, hla.out, hp9.out⟩
          case measure => simp [intOf]; omega
    · have p4 : (n : Int) ≤ 2 * (k : Int) + 1 := by omega
      have hh := Lib.hid (dn_leaf hd2.out (by omega))
      go_wp2_with fail
      refine bodyPost_ret (v := .bool (decide (0 < k))) (by simp [results, Try.results63, go_sem]) rfl ⟨⟨_, rfl⟩, h', Hwo.out, hm.out, hh.out, hlast.out, hpwo.out⟩
theorem at_perm {h h' : List Wy} (m : Mix h h') (y : Wy) : y ∈ h' ↔ y ∈ h := m.mem y
set_option maxHeartbeats 8000000 in
theorem o_hpop {w : World} {b : Nat} {h : List Wy} {A : Option Addr} {c : Nat} (H : Hp w b h A c) (hh : HeapN h h.length) {m : Nat} (hm : h.length = m + 1) (hl : h.length ≤ 1000000) :
    Calls Try.prog 44 #[hpv b] w fun e w' => e = .returned (at_ h 0).v ∧ ∃ t, Hp w' b t A c ∧ t.length = m ∧ (∀ y ∈ t, y ∈ h) ∧ (∀ y ∈ h, y = at_ h 0 ∨ y ∈ t) ∧ HeapN t t.length ∧ Hop w w' b A A := by
  have l1 := m_len (H.bx.c (i := 0) rfl)
  have l2 := m_swap (H.bx.c (i := 0) rfl)
  have hLn := Lib.hid (fun W => o_len A h.length c W)
  have hS := Lib.hid (o_swap H.own (i := 0) (j := m) (by omega) (by omega))
  have q1 : ((h.length : Nat) : Int) - 1 = (m : Int) := by omega
  rw [hm] at l1 l2 hLn q1 hS
  rw [show ((0 : Nat) : Int) = 0 from rfl] at hS
  have q2 : wrap64 (m : Int) = (m : Int) := IntWalk.wrap64_in _ (by omega)
  replace hh := Lib.hid (show HeapN h (m + 1) by rw [← hm]; exact hh)
  have hm0 := Lib.hid hm
  have hl0 := Lib.hid hl
  have H0 := Lib.hid H
  clear H hm hl
  go_enter Try.func44, Try.ntmps44
  go_wp2_with fail
  go_at_call 43
  (with_reducible refine (hLn.out _).mono ?_)
  rintro e w2 ⟨rfl, rfl⟩
  go_wp2_with fail
  go_at_call 105
  (with_reducible refine hS.out.mono ?_)
  rintro e w3 ⟨rfl, o3, g, hg, hgr⟩
  have H3 := Lib.hid (H0.out.swapped (swp_len h 0 m) hg (by rw [hm0.out]; exact o3) hgr)
  have hp3 := Lib.hid (hop_grown (b := b) hg hgr)
  have hD := Lib.hid (o_down H3.out (n := m) (by rw [swp_len]; exact hm0.out) (dn_pop hm0.out hh.out) (by rw [swp_len]; exact hl0.out))
  clear o3 hg hgr l1 l2
  go_wp2_with fail
  go_at_call 63
  (with_reducible refine hD.out.mono ?_)
  rintro e w4 ⟨⟨r, rfl⟩, h', H4, hm4, hh4, hat, hp4⟩
  have hl4 : h'.length = m + 1 := by rw [hm4.len, swp_len]; exact hm0.out
  have hP := Lib.hid (o_pop H4 hl4)
  have m1 := m_pop (.pointer (some ⟨b, 0, none⟩))
  have hv : at_ h' m = at_ h 0 := by rw [hat, swp_at h (by have := hm0.out; omega) (by have := hm0.out; omega), if_pos rfl]
  rw [hv] at hP
  replace hv := Lib.hid hv
  replace hl4 := Lib.hid hl4
  have K := Lib.hid (And.intro hm4 (And.intro hh4 (hp3.out.trans hp4)))
  clear hm4 hh4 hat hp4 H4
  go_wp2_with fail
  go_at_call 107
  (with_reducible refine hP.out.mono ?_)
  rintro e w5 ⟨rfl, H5, hp5⟩
  have H5 := Lib.hid H5
  have hp5 := Lib.hid hp5
  obtain ⟨V, hV⟩ : ∃ V, (at_ h 0).v = V := ⟨_, rfl⟩
  rw [hV]
  replace hV := Lib.hid hV
  go_wp2_with fail
  go_ret
  have hap : h' = h'.take m ++ [at_ h 0] := by
    refine List.ext_getElem? fun k => ?_
    have hl := hl4.out
    by_cases hk : k < m
    · rw [List.getElem?_append_left (by rw [List.length_take]; omega), List.getElem?_take_of_lt hk]
    · by_cases hk2 : k = m
      · subst hk2
        rw [List.getElem?_append_right (by rw [List.length_take]; omega), List.length_take, Nat.min_eq_left (by omega), Nat.sub_self, at_get (by omega), hv.out]; rfl
      · rw [List.getElem?_eq_none (by omega), List.getElem?_eq_none (by rw [List.length_append, List.length_take]; simp; omega)]
  have hsw : ∀ y, y ∈ h' ↔ y ∈ h := fun y => (K.out.1.mem y).trans (swp_mem h (by have := hm0.out; omega) (by have := hm0.out; omega) y)
  refine ⟨by rw [hV.out]; rfl, h'.take m, H5.out, by rw [List.length_take]; have := hl4.out; omega, fun y hy => (hsw y).1 (List.mem_of_mem_take hy), fun y hy => ?_, heapN_take K.out.2.1 (by have := hl4.out; omega), K.out.2.2.trans hp5.out⟩
  have := (hsw y).2 hy
  rw [hap] at this
  rcases List.mem_append.1 this with e | e
  · exact .inr e
  · exact .inl (List.mem_singleton.1 e)
end Go.Proofs.Ytplgaenfcaphnaa.LanP
