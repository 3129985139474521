/-
  Contract of footwayref17's Steps.
-/
import Derived.Test.YtgcmklliafcffaaFloodT
import Derived.BigRegion
namespace Go.Proofs.Ytgcmklliafcffaa.LanP
open Go.RowKit Go.Sort Go.Proofs.Ytgcmklliafcffaa.SliceP Go.Proofs.Ytgcmklliafcffaa.BoxP
open Go.Proofs.Ytgcmklliafcffaa.IntP (RowI SlI OwnI)
open Go.Proofs.Ytgcmklliafcffaa.BoolP (RowB SlB OwnB)
open Go.Proofs.Ytgcmklliafcffaa.MacP (arr_out Wrote wp_region_ends outM)
set_option linter.unusedVariables false
set_option maxRecDepth 100000
def tabI (g : Int → Int) (n : Nat) : List Int := (List.range n).map fun s : Nat => g (s : Int)
theorem tabI_len (g : Int → Int) (n : Nat) : (tabI g n).length = n := by unfold tabI; simp
theorem tabI_at (g : Int → Int) {n k : Nat} (h : k < n) : (tabI g n)[k]? = some (g (k : Int)) := by unfold tabI; rw [List.getElem?_map, List.getElem?_range h]; rfl
theorem tabI_ext {g h : Int → Int} {n : Nat} (e : ∀ k : Nat, k < n → g (k : Int) = h (k : Int)) : tabI g n = tabI h n := by
  unfold tabI
  exact List.map_congr_left fun k hk => e k (List.mem_range.1 hk)
theorem tabI_set {g h : Int → Int} {n k : Nat} {v : Int} (hk : h (k : Int) = v) (e : ∀ j : Nat, j ≠ k → g (j : Int) = h (j : Int)) : (tabI g n).set k v = tabI h n := by
  apply List.ext_getElem?
  intro i
  rw [List.getElem?_set]
  by_cases hi : i < n
  · rw [tabI_at h hi]
    split
    · rename_i q; subst q; rw [tabI_len, if_pos hi, hk]
    · rename_i q; rw [tabI_at g hi, e i (fun z => q z.symm)]
  · rw [List.getElem?_eq_none (l := tabI h n) (by rw [tabI_len]; omega)]
    split
    · rename_i q; subst q; rw [tabI_len, if_neg hi]
    · rw [List.getElem?_eq_none (l := tabI g n) (by rw [tabI_len]; omega)]
theorem rep_set (l : L) (f : Nat) (n : Nat) : (List.replicate n (-1 : Int)).set f 0 = tabI (rndT l (f : Int) 0) n := by
  rw [show List.replicate n (-1 : Int) = tabI (fun _ => -1) n by unfold tabI; rw [List.map_const']; simp]
  exact tabI_set (h := rndT l (f : Int) 0) (if_pos rfl) (fun j hj => (if_neg (by omega : ¬ (j : Int) = (f : Int))).symm)
theorem rnd1_zero (l : L) (q : Int) (g : Int → Int) (t : Int) : rnd1 l q g 0 t = g t := by unfold rnd1; simp
theorem rnd1_hit {l : L} {q : Int} {g : Int → Int} {m : Nat} {s : Int} (hq : 1 ≤ q) : rnd1 l q g m s = q - 1 ↔ g s = q - 1 := by
  unfold rnd1
  split
  · rename_i h
    have := (rnd1_iff.1 h).1
    omega
  · exact Iff.rfl
theorem rnd1_succ {l : L} {q : Int} {g : Int → Int} {m : Nat} {t : Int} (hq : 1 ≤ q) : rnd1 l q g (m + 1) t = if rnd1 l q g m t < 0 ∧ g (m : Int) = q - 1 ∧ lnk l (m : Int) t = true then q else rnd1 l q g m t := by
  by_cases h1 : g t < 0
  · by_cases h2 : ∃ s : Nat, s < m ∧ g s = q - 1 ∧ lnk l s t = true
    · have a : rnd1 l q g m t = q := by unfold rnd1; rw [if_pos (rnd1_iff.2 ⟨h1, h2⟩)]
      have b : rnd1 l q g (m + 1) t = q := by
        unfold rnd1
        obtain ⟨s, s1, s2⟩ := h2
        rw [if_pos (rnd1_iff.2 ⟨h1, s, by omega, s2⟩)]
      rw [a, b, if_neg (by omega)]
    · have a : rnd1 l q g m t = g t := by unfold rnd1; rw [if_neg (fun h => h2 (rnd1_iff.1 h).2)]
      rw [a]
      by_cases h3 : g (m : Int) = q - 1 ∧ lnk l (m : Int) t = true
      · rw [if_pos ⟨h1, h3⟩]
        unfold rnd1
        rw [if_pos (rnd1_iff.2 ⟨h1, m, by omega, h3⟩)]
      · rw [if_neg (fun h => h3 h.2)]
        unfold rnd1
        rw [if_neg (fun h => ?_)]
        obtain ⟨s, s1, s2⟩ := (rnd1_iff.1 h).2
        by_cases e : s = m
        · subst e; exact h3 s2
        · exact h2 ⟨s, by omega, s2⟩
  · have a : ∀ k, rnd1 l q g k t = g t := fun k => by unfold rnd1; rw [if_neg (fun h => h1 (rnd1_iff.1 h).1)]
    rw [a, a, if_neg (by omega)]
def mixS (l : L) (q : Int) (g : Int → Int) (S T : Nat) (t : Int) : Int := if t < (T : Int) then rnd1 l q g (S + 1) t else rnd1 l q g S t
theorem mixS_zero (l : L) (q : Int) (g : Int → Int) (S n : Nat) : tabI (mixS l q g S 0) n = tabI (rnd1 l q g S) n := tabI_ext fun k _ => by unfold mixS; rw [if_neg (by omega)]
theorem mixS_all (l : L) (q : Int) (g : Int → Int) (S n : Nat) : tabI (mixS l q g S n) n = tabI (rnd1 l q g (S + 1)) n := tabI_ext fun k _ => by unfold mixS; rw [if_pos (by omega)]
theorem mixS_at (l : L) (q : Int) (g : Int → Int) (S T : Nat) : mixS l q g S T (T : Int) = rnd1 l q g S (T : Int) := by unfold mixS; rw [if_neg (by omega)]
theorem mixS_hit {l : L} {q : Int} {g : Int → Int} {S T : Nat} {s : Int} (hq : 1 ≤ q) : mixS l q g S T s = q - 1 ↔ g s = q - 1 := by unfold mixS; split <;> exact rnd1_hit hq
theorem mixS_stay {l : L} {q : Int} {g : Int → Int} {S T : Nat} (n : Nat) (hq : 1 ≤ q) (h : ¬ (mixS l q g S T (T : Int) < 0 ∧ mixS l q g S T (S : Int) = q - 1 ∧ lnk l (S : Int) (T : Int) = true)) : tabI (mixS l q g S (T + 1)) n = tabI (mixS l q g S T) n := tabI_ext fun k _ => by
  rw [mixS_hit hq, mixS_at] at h
  by_cases e : k = T
  · subst e
    rw [mixS_at]
    show (if (k : Int) < ((k + 1 : Nat) : Int) then _ else _) = _
    rw [if_pos (by omega), rnd1_succ hq, if_neg h]
  · unfold mixS
    by_cases e2 : k < T
    · rw [if_pos (by omega), if_pos (by omega)]
    · rw [if_neg (by omega), if_neg (by omega)]
theorem mixS_put {l : L} {q : Int} {g : Int → Int} {S T : Nat} (n : Nat) (hq : 1 ≤ q) (h : mixS l q g S T (T : Int) < 0 ∧ mixS l q g S T (S : Int) = q - 1 ∧ lnk l (S : Int) (T : Int) = true) : (tabI (mixS l q g S T) n).set T q = tabI (mixS l q g S (T + 1)) n := tabI_set (by
    rw [mixS_hit hq, mixS_at] at h
    show (if (T : Int) < ((T + 1 : Nat) : Int) then _ else _) = _
    rw [if_pos (by omega), rnd1_succ hq, if_pos h]) (fun k e => by
    unfold mixS
    by_cases e2 : k < T
    · rw [if_pos (by omega), if_pos (by omega)]
    · rw [if_neg (by omega), if_neg (by omega)])
theorem ref_nums {q : Nat} (h : q ≤ 8) (h1 : 1 ≤ q) : wrap64 ((q : Int) - 1) = (q : Int) - 1 := IntWalk.wrap64_in _ (by omega)
set_option maxHeartbeats 16000000 in
theorem t_steps {l : L} {A : Option Addr} {c : Nat} {B : Option Addr} {d : Nat} {w : World} {O : List (List Bool)} {C : Option Addr} {e : Nat} (hr : LanR w l A c B d) (hs : Small l) (hR : RowL bc w C O.length e O) (hw : rowsB l O = true) (h8 : l.n ≤ 8) {f : Nat} (hfn : f < l.n) :
    Calls Try.prog 30 #[lv l A c B d, .slice C O.length e, .int .i64 (f : Int)] w fun en w' => ∃ A' c', en = .returned (.slice A' (stpR (l.op O) (f : Int)).length c') ∧ Row ic 1 w' A' (stpR (l.op O) (f : Int)).length c' (stpR (l.op O) (f : Int)) ∧ (∀ a, A' = some a → w.heap.size ≤ a.block) ∧ Below w.heap.size w w' := by
  have hn : (l.n : Int) = l.segs := by unfold L.n at *; omega
  obtain ⟨p, hp⟩ : ∃ p, l.op O = p := ⟨_, rfl⟩
  have hpn : p.n = l.n := by rw [← hp]; rfl
  have hres : stpR (l.op O) (f : Int) = tabI (rndT p (f : Int) (l.n - 1)) l.n := by rw [hp]; unfold stpR tabI L.dst; rw [hpn]
  rw [hres, tabI_len]
  have hLN := Lib.hid (fun (W : World) (hW : Below w.heap.size w W) (s t : Int) (hne : s ≠ t) => t_next (s := s) (t := t) (hr.below hW) hs (hR.below hW) hw hne)
  rw [hp] at hLN
  obtain ⟨n, hnn⟩ : ∃ n, l.n = n := ⟨_, rfl⟩
  rw [hnn] at hn h8 hfn hpn ⊢
  obtain ⟨w0, hw0, X0, R0, B0⟩ := new3 w hr
  replace X0 := Lib.hid X0
  replace B0 := Lib.hid B0
  replace hn := Lib.hid hn
  replace hp := Lib.hid hp
  replace hpn := Lib.hid hpn
  replace hnn := Lib.hid hnn
  replace hres := Lib.hid hres
  replace hs := Lib.hid hs
  replace hw := Lib.hid hw
  clear hr hR R0
  obtain ⟨g1, hg1⟩ : ∃ g, g = w.heap.size + 1 := ⟨_, rfl⟩
  obtain ⟨w1, hw1⟩ : ∃ W, W = w0.alloc (.cells #[] 3) := ⟨_, rfl⟩
  have bb1 : Below w0.heap.size w0 w1 := by rw [hw1]; exact (Below.refl _ _).alloc (Nat.le_refl _) _
  have O1 := Lib.hid (show Own w1 w0.heap.size 3 1 (.slice (some ⟨g1, 0, none⟩) 0 0) [] by rw [hw1, hg1, show w.heap.size + 1 = w0.heap.size by rw [hw0]; simp]; exact own_lit0 w0 _ _)
  replace bb1 := Lib.hid bb1
  go_enter Try.func30, Try.ntmps30
  go_upto_region 2 with fail
  rw [← hw0, ← hw1, ← hg1]
  obtain ⟨bz, hbz⟩ : ∃ b, b = w0.heap.size := ⟨_, rfl⟩
  rw [← hbz] at O1
  replace hbz := Lib.hid hbz
  clear hw0 hw1
  replace hg1 := Lib.hid hg1
  go_wp2_with fail
  go_loopw [7, 8] (fun v i wr => ∃ k : Nat, k ≤ n ∧ i = .int .i64 k ∧ Own wr bz 3 1 v ((List.replicate k (-1 : Int)).map ic) ∧ Below w0.heap.size w0 wr) (fun _ i _ => n - (intOf i).toNat)
  case atStart => exact ⟨0, by omega, rfl, O1.out, bb1.out⟩
  case round =>
    clear O1 bb1
    obtain ⟨k, hk, rfl, hown, hb⟩ := hrel
    obtain ⟨wj, hwj⟩ : ∃ W, W = wr := ⟨_, rfl⟩
    subst hwj
    obtain ⟨A3, c3, hv3⟩ := own_form hown
    rw [List.length_replicate] at hv3
    subst hv3
    have x0 := (X0.out.below hb).c (i := 0) rfl
    have zz := (X0.out.below hb).lt
    by_cases hkn : k < n
    · have hkl : (k : Int) < l.segs := by have := hn.out; omega
      have own8 := Lib.hid hown
      have b8 := Lib.hid hb
      clear hown hb
      obtain ⟨w9, hw9⟩ : ∃ W, W = wj.alloc (.cells #[.int .i64 (-1)] 3) := ⟨_, rfl⟩
      have b9 : Below wj.heap.size wj w9 := by rw [hw9]; exact (Below.refl _ _).alloc (Nat.le_refl _) _
      have hsl := Lib.hid (show Sl w9 1 (some ⟨wj.heap.size, 0, none⟩) ([(-1 : Int)].map ic) by rw [hw9]; exact IntP.SlI.one wj (-1) wj.heap.size rfl)
      have own9 := Lib.hid (own8.out.below b9)
      have hb9 := Lib.hid (bt b8.out b9)
      have hn1 : Hid (((List.replicate k (-1 : Int)).map ic).length + ([(-1 : Int)].map ic).length ≤ 1000000) := Lib.hid (by rw [List.length_map, List.length_replicate]; simp; omega)
      have hvl : Hid (((List.replicate k (-1 : Int)).map ic).length = (List.replicate k (-1 : Int)).length) := Lib.hid (List.length_map ..)
      have hB2 : Hid (bz ≤ w9.heap.size) := Lib.hid (by rw [hbz.out]; exact hb9.out.size)
      clear b9
      go_wp2_with (at_builtin; rw [← hw9]; (refine wpList_append_sl rfl (.tmp 19) (.tmp 20) 43 rfl IntP.elI (by rfl) own9.out (by rfl) (by rfl) hsl.out (IntP.whole [(-1 : Int)]) (fun h => by cases h) hn1.out hB2.out ?_); intro v' w4 own1 grow1 _; clear x0 zz)
      have b4 : Below w0.heap.size w0 w4 := hb9.out.grown grow1 (by rw [← hbz.out]; exact hB2.out) (fun j hj => by rw [← hbz.out]; exact (own9.out.lt j hj).1)
      go_roundw
      case rel => exact ⟨k + 1, by omega, by go_num, by rw [List.replicate_succ', List.map_append]; exact own1, b4⟩
      case measure => simp [intOf]; omega
    · obtain rfl : k = n := by omega
      have hkl : ¬ ((k : Int) < l.segs) := by have := hn.out; omega
      obtain ⟨g, hg, hg0, hg1'⟩ := own_ptr hown (by intro q; have := congrArg List.length q; rw [List.length_map, List.length_replicate, List.length_nil] at this; omega)
      subst hg
      have hfl : (f : Int) < (k : Int) := by omega
      have rc := own_cell hown (by decide) (j := f) (cs := ic (-1)) (by rw [List.getElem?_map, List.getElem?_replicate, if_pos hfn]; rfl) (i := 0) rfl
      rw [Nat.mul_one, Nat.add_zero] at rc
      have rf := (own_free hown f).1
      have rz := (own_free hown f).2
      have hrow := Row.own hown (by decide)
      have hmx := hrow.mx
      have hcap := hrow.cap
      have hput := Lib.hid (own_put1 hown (j := f) (by rw [List.length_map, List.length_replicate]; exact hfn) (v := .int .i64 0) rfl)
      have hset := Lib.hid (show (((List.replicate k (-1 : Int)).map ic).set f [.int .i64 0]) = (tabI (rndT p (f : Int) 0) k).map ic by rw [← rep_set, List.map_set] <;> rfl)
      have b8 := Lib.hid hb
      have hgB := Lib.hid hg0
      clear hown hb hrow hg0 hg1'
      obtain ⟨w5, hw5⟩ : ∃ W, W = wj.setCell ⟨g, f, none⟩ (.int .i64 0) := ⟨_, rfl⟩
      have own5 := Lib.hid (show Own w5 bz 3 1 (.slice (some ⟨g, 0, none⟩) k c3) ((tabI (rndT p (f : Int) 0) k).map ic) by rw [hw5, ← hset.out]; exact hput.out)
      have b5 := Lib.hid (show Below w0.heap.size w0 w5 by rw [hw5]; exact b8.out.setCell (by rw [← hbz.out]; exact hgB.out) _)
      go_upto_region 7 with fail
      rw [← hw5]
      clear hw5 rc rf rz x0 zz hput hset
      go_wp2_with fail
      go_loopw [9] (fun i wr => ∃ r q : Nat, r + 1 = q ∧ q ≤ k ∧ i = .int .i64 q ∧ Own wr bz 3 1 (.slice (some ⟨g, 0, none⟩) k c3) ((tabI (rndT p (f : Int) r) k).map ic) ∧ Below w0.heap.size w0 wr) (fun i _ => k - (intOf i).toNat)
      case atStart => exact ⟨0, 1, rfl, by omega, rfl, own5.out, b5.out⟩
      case round =>
        clear own5 b5 b8
        obtain ⟨r, q, hrq, hq9, rfl, hown, hb⟩ := hrel
        obtain ⟨wj, hwj⟩ : ∃ W, W = wr := ⟨_, rfl⟩
        subst hwj
        have x0 := (X0.out.below hb).c (i := 0) rfl
        have zz := (X0.out.below hb).lt
        by_cases hqn : q < k
        · have hql : (q : Int) < l.segs := by have := hn.out; omega
          obtain ⟨G, hG⟩ : ∃ g, rndT p (f : Int) r = g := ⟨_, rfl⟩
          have hnx := Lib.hid (show rndT p (f : Int) q = rnd1 p (q : Int) G k by rw [← hrq, ← hG]; show rnd1 p ((r : Int) + 1) (rndT p (f : Int) r) p.n = _; rw [hpn.out]; rfl)
          rw [hG] at hown
          have hq1 : (1 : Int) ≤ (q : Int) := by omega
          replace hG := Lib.hid hG
          have own5 := Lib.hid (show Own wj bz 3 1 (.slice (some ⟨g, 0, none⟩) k c3) ((tabI (rnd1 p (q : Int) G 0) k).map ic) by rw [show rnd1 p (q : Int) G 0 = G from funext fun t => rnd1_zero _ _ _ _]; exact hown)
          have b5 := Lib.hid hb
          replace hrq := Lib.hid hrq
          clear hown hb
          go_wp2_with fail
          clear x0 zz
          go_loopw [33] (fun i wr => ∃ S : Nat, S ≤ k ∧ i = .int .i64 S ∧ Own wr bz 3 1 (.slice (some ⟨g, 0, none⟩) k c3) ((tabI (rnd1 p (q : Int) G S) k).map ic) ∧ Below w0.heap.size w0 wr) (fun i _ => k - (intOf i).toNat)
          case atStart => exact ⟨0, by omega, rfl, own5.out, b5.out⟩
          case round =>
            clear own5 b5
            obtain ⟨S, hS, rfl, hown, hb⟩ := hrel
            obtain ⟨wj, hwj⟩ : ∃ W, W = wr := ⟨_, rfl⟩
            subst hwj
            by_cases hSn : S < k
            · have hSl : (S : Int) < (k : Int) := by omega
              have own5 := Lib.hid (show Own wj bz 3 1 (.slice (some ⟨g, 0, none⟩) k c3) ((tabI (mixS p (q : Int) G S 0) k).map ic) by rw [mixS_zero]; exact hown)
              have b5 := Lib.hid hb
              clear hown hb
              go_wp2_with fail
              go_loopw [38] (fun i wr => ∃ T : Nat, T ≤ k ∧ i = .int .i64 T ∧ Own wr bz 3 1 (.slice (some ⟨g, 0, none⟩) k c3) ((tabI (mixS p (q : Int) G S T) k).map ic) ∧ Below w0.heap.size w0 wr) (fun i _ => k - (intOf i).toNat)
              case atStart => exact ⟨0, by omega, rfl, own5.out, b5.out⟩
              case round =>
                clear own5 b5
                obtain ⟨T, hT, rfl, hown, hb⟩ := hrel
                obtain ⟨wj, hwj⟩ : ∃ W, W = wr := ⟨_, rfl⟩
                subst hwj
                by_cases hTn : T < k
                · have hTl : (T : Int) < (k : Int) := by omega
                  have hstay := mixS_stay (l := p) (g := G) (S := S) (T := T) k hq1
                  have hputE := mixS_put (l := p) (g := G) (S := S) (T := T) k hq1
                  have rT := own_cell hown (by decide) (j := T) (cs := ic (mixS p (q : Int) G S T (T : Int))) (by rw [List.getElem?_map, tabI_at _ hTn]; rfl) (i := 0) rfl
                  have rS := own_cell hown (by decide) (j := S) (cs := ic (mixS p (q : Int) G S T (S : Int))) (by rw [List.getElem?_map, tabI_at _ hSn]; rfl) (i := 0) rfl
                  rw [Nat.mul_one, Nat.add_zero] at rT rS
                  have rf := (own_free hown T).1
                  have rz := (own_free hown T).2
                  have hput := Lib.hid (fun W (hW : Below wj.heap.size wj W) => own_put1 (hown.below hW) (j := T) (by rw [List.length_map, tabI_len]; exact hTn) (v := .int .i64 (q : Int)) rfl)
                  have hset : ∀ H, (tabI (mixS p (q : Int) G S T) k).set T (q : Int) = H → (((tabI (mixS p (q : Int) G S T) k).map ic).set T [.int .i64 (q : Int)]) = H.map ic := fun H h => by rw [← h, List.map_set] <;> rfl
                  have hST : mixS p (q : Int) G S T (T : Int) < 0 → mixS p (q : Int) G S T (S : Int) = (q : Int) - 1 → (S : Int) ≠ (T : Int) := fun h1 h2 h3 => by rw [h3] at h2; omega
                  have hLK := Lib.hid (fun h1 h2 => hLN.out wj (bt B0.out hb) (S : Int) (T : Int) (hST h1 h2))
                  obtain ⟨vT, hvT⟩ : ∃ v, mixS p (q : Int) G S T (T : Int) = v := ⟨_, rfl⟩
                  obtain ⟨vS, hvS⟩ : ∃ v, mixS p (q : Int) G S T (S : Int) = v := ⟨_, rfl⟩
                  obtain ⟨lk, hlk⟩ : ∃ v, lnk p (S : Int) (T : Int) = v := ⟨_, rfl⟩
                  obtain ⟨q1, hq1e⟩ : ∃ z, (q : Int) - 1 = z := ⟨_, rfl⟩
                  have hqw : wrap64 ((q : Int) - 1) = q1 := by rw [← hq1e]; exact ref_nums (by omega) (by omega)
                  rw [hvT, hvS, hlk, hq1e] at hstay hputE
                  rw [hvT] at rT
                  rw [hvS] at rS
                  rw [hvT, hvS, hlk, hq1e] at hLK
                  clear hST
                  have own8 := Lib.hid hown
                  have b8 := Lib.hid hb
                  have XX := Lib.hid (X0.out.below hb)
                  have hgB9 := Lib.hid (show w0.heap.size ≤ g by rw [← hbz.out]; exact hgB.out)
                  replace hq1e := Lib.hid hq1e
                  replace hvT := Lib.hid hvT
                  replace hvS := Lib.hid hvS
                  replace hlk := Lib.hid hlk
                  replace hset := Lib.hid hset
                  clear hown hb
                  by_cases h1 : vT < 0
                  · by_cases h2 : vS = q1
                    · have h2b : (vS == q1) = true := by simpa using h2
                      have h2c : (vS == (q : Int) - 1) = true := by rw [hq1e.out]; exact h2b
                      have hcl := Lib.hid (hLK.out h1 h2)
                      replace h2 := Lib.hid h2
                      have h1h := Lib.hid h1
                      replace hstay := Lib.hid hstay
                      replace hputE := Lib.hid hputE
                      have x0 := XX.out.c (i := 0) rfl
                      have x1 := XX.out.c (i := 1) rfl
                      have x2 := XX.out.c (i := 2) rfl
                      have zz := XX.out.lt
                      clear rf
                      go_wp2_with fail
                      go_at_call 62
                      (with_reducible refine hcl.out.mono ?_)
                      rintro en w3 ⟨rfl, hb3⟩
                      clear x0 x1 x2 zz rT rS
                      have own9 := Lib.hid (own8.out.below hb3)
                      have b9 := Lib.hid (bt b8.out hb3)
                      have rc := own_cell own9.out (by decide) (j := T) (cs := ic (mixS p (q : Int) G S T (T : Int))) (by rw [List.getElem?_map, tabI_at _ hTn]; rfl) (i := 0) rfl
                      rw [Nat.mul_one, Nat.add_zero] at rc
                      have rf := (own_free own9.out T).1
                      have rz := (own_free own9.out T).2
                      cases lk
                      · have e9 := Lib.hid (hstay.out (fun h => by cases h.2.2))
                        clear hb3
                        go_wp2_with fail
                        go_roundw
                        case rel => exact ⟨T + 1, by omega, by go_num, by rw [e9.out]; exact own9.out, b9.out⟩
                        case measure => simp [intOf]; omega
                      · have e9 := Lib.hid (hset.out _ (hputE.out ⟨h1h.out, h2.out, rfl⟩))
                        obtain ⟨w5, hw5⟩ : ∃ W, W = w3.setCell ⟨g, T, none⟩ (.int .i64 (q : Int)) := ⟨_, rfl⟩
                        have own5 := Lib.hid (show Own w5 bz 3 1 (.slice (some ⟨g, 0, none⟩) k c3) ((tabI (mixS p (q : Int) G S (T + 1)) k).map ic) by rw [hw5, ← e9.out]; exact hput.out w3 hb3)
                        have b5 := Lib.hid (show Below w0.heap.size w0 w5 by rw [hw5]; exact b9.out.setCell hgB9.out _)
                        clear hb3
                        go_upto_region 18 with fail
                        rw [← hw5]
                        clear hw5 rc rf rz
                        go_wp2_with fail
                        go_roundw
                        case rel => exact ⟨T + 1, by omega, by go_num, own5.out, b5.out⟩
                        case measure => simp [intOf]; omega
                    · have h2b : (vS == q1) = false := by simpa using h2
                      have h2c : (vS == (q : Int) - 1) = false := by rw [hq1e.out]; exact h2b
                      have e9 := Lib.hid (hstay (fun h => h2 h.2.1))
                      replace h2 := Lib.hid h2
                      clear hstay hputE rf
                      go_wp2_with fail
                      go_roundw
                      case rel => exact ⟨T + 1, by omega, by go_num, by rw [e9.out]; exact own8.out, b8.out⟩
                      case measure => simp [intOf]; omega
                  · have e9 := Lib.hid (hstay (fun h => h1 h.1))
                    clear hstay hputE rf
                    go_wp2_with fail
                    go_roundw
                    case rel => exact ⟨T + 1, by omega, by go_num, by rw [e9.out]; exact own8.out, b8.out⟩
                    case measure => simp [intOf]; omega
                · obtain rfl : T = k := by omega
                  rw [mixS_all] at hown
                  have own8 := Lib.hid hown
                  have b8 := Lib.hid hb
                  clear hown hb
                  go_wp2_with fail
                  go_roundw
                  case rel => exact ⟨S + 1, by omega, by go_num, own8.out, b8.out⟩
                  case measure => simp [intOf]; omega
            · obtain rfl : S = k := by omega
              rw [← hnx.out] at hown
              have own8 := Lib.hid hown
              have b8 := Lib.hid hb
              clear hown hb
              go_wp2_with fail
              go_roundw
              case rel => exact ⟨q, q + 1, rfl, by omega, by go_num, own8.out, b8.out⟩
              case measure => simp [intOf]; omega
        · obtain rfl : q = k := by omega
          have hql : ¬ ((q : Int) < l.segs) := by have := hn.out; omega
          have hre := Lib.hid (show r = q - 1 by omega)
          have own8 := Lib.hid hown
          have b8 := Lib.hid hb
          replace hrq := Lib.hid hrq
          clear hown hb
          go_wp2_with fail
          go_ret
          refine ⟨_, _, rfl, ?_, fun a ha => ?_, bt B0.out b8.out⟩
          rotate_left
          · obtain rfl := Option.some.inj ha
            have := hgB.out
            rw [hbz.out] at this
            exact Nat.le_trans B0.out.size this
          rw [← hre.out]
          exact Row.own own8.out (by decide)
end Go.Proofs.Ytgcmklliafcffaa.LanP
