/-
  Contract of flood's opened: the plan with no port up but the open ones, in rows of its own.
-/
import Derived.Test.YtgcmklliafcffaaFloodE
import Derived.Test.YtgcmklliafcffaaLanP
import Derived.BigRegion
namespace Go.Proofs.Ytgcmklliafcffaa.LanP
open Go.RowKit Go.Sort Go.Proofs.Ytgcmklliafcffaa.SliceP Go.Proofs.Ytgcmklliafcffaa.BoxP
open Go.Proofs.Ytgcmklliafcffaa.IntP (RowI SlI OwnI)
open Go.Proofs.Ytgcmklliafcffaa.BoolP (RowB SlB OwnB)
open Go.Proofs.Ytgcmklliafcffaa.MacP (arr_out Wrote wp_region_ends outM)
set_option linter.unusedVariables false
set_option maxRecDepth 100000
theorem made0 (w : World) (e : TypeId) (sz : Nat) : Own (w.alloc (.cells #[] e)) w.heap.size e sz (.slice (some ⟨w.heap.size, 0, none⟩) 0 0) [] := ⟨World.ownsRow_made w #[] 0 (Nat.le_refl _) (by unfold maxLen; omega) (by simp), Whole.nil⟩
set_option maxHeartbeats 4000000 in
theorem clone_link {A : Option Addr} {n c : Nat} {l : List Lk} {w : World} (hs : Sl w 3 A (l.map kc)) (hw : Whole 3 (l.map kc)) (hn : n = l.length) (hc : A = none → c = 0) (hl : l.length ≤ 1000000) : Calls Try.prog 89 #[.slice A n c] w (fun en w' => ∃ A c, en = .returned (.slice A l.length c) ∧ Own w' w.heap.size 57 3 (.slice A l.length c) (l.map kc) ∧ Below w.heap.size w w') := by
  subst hn
  have H := Lib.hid hs
  have HW := Lib.hid hw
  have HL := Lib.hid hl
  have hmade := Lib.hid (made0 w 57 3)
  have hnl := fun (W : World) (A : Option Addr) (n c : Nat) => Lib.run_eql_slice_nil (P := Try.prog) W 58 57 A n c 0 0 (by simp)
  clear hs hw hl
  go_enter Try.func89, Try.ntmps89
  cases A with
  | none =>
    have hx : l = [] := by
      rcases l with _ | ⟨x, l⟩
      · rfl
      · obtain ⟨b, o, h1, _⟩ := H.out (by simp)
        cases h1
    subst hx
    obtain rfl := hc rfl
    go_wp2_with fail
    go_ret
    exact ⟨none, 0, rfl, Own.nil _ _ _ _, Below.refl _ _⟩
  | some a =>
    obtain ⟨w1, hw1⟩ : ∃ W, W = w.alloc (.cells #[] 57) := ⟨_, rfl⟩
    have b1 := Lib.hid (show Below w.heap.size w w1 by rw [hw1]; exact (Below.refl _ _).alloc (Nat.le_refl _) _)
    have H1 := Lib.hid (H.out.below b1.out)
    rw [← hw1] at hmade
    have hsz := Lib.hid b1.out.size
    go_wp2_with (at_builtin; rw [← hw1]; (refine wpList_append_sl rfl (.tmp 5) (.tmp 6) 58 rfl elK (by rfl) hmade.out (by rfl) (by rw [List.length_map]) H1.out HW.out (fun h => by cases h) (by rw [List.length_nil, Nat.zero_add, List.length_map]; exact HL.out) hsz.out ?_); intro v' w4 own1 grow1 _)
    have b4 := Lib.hid (b1.out.grown grow1 hsz.out (fun j hj => (hmade.out.lt j hj).1))
    rw [List.nil_append] at own1
    obtain ⟨A4, c4, rfl, _⟩ := own1.form
    rw [List.length_map] at own1 ⊢
    replace own1 := Lib.hid own1
    clear grow1
    go_wp2_with fail
    go_ret
    exact ⟨A4, c4, rfl, own1.out, b4.out⟩
def mixTo (p : P) (r : List Bool) (j : Nat) : List Lk := (List.range p.ports.length).map fun k => if k < j then opX p r k else p.ports.getD k default
theorem mix_zero (p : P) (r : List Bool) : mixTo p r 0 = p.ports := by
  unfold mixTo
  apply List.ext_getElem?
  intro i
  rw [List.getElem?_map]
  by_cases h : i < p.ports.length
  · rw [List.getElem?_range h]
    show some (if i < 0 then _ else p.ports.getD i default) = _
    rw [if_neg (by omega), List.getD_eq_getElem?_getD, List.getElem?_eq_getElem h]; rfl
  · rw [List.getElem?_eq_none (by simp; omega), List.getElem?_eq_none (by omega)]; rfl
theorem mix_len (p : P) (r : List Bool) (j : Nat) : (mixTo p r j).length = p.ports.length := by unfold mixTo; simp
theorem mix_at (p : P) (r : List Bool) {j : Nat} (h : j < p.ports.length) : (mixTo p r j)[j]? = some (p.ports.getD j default) := by
  unfold mixTo
  rw [List.getElem?_map, List.getElem?_range h]
  show some (if j < j then _ else _) = _
  rw [if_neg (by omega)]
theorem mix_succ (p : P) (r : List Bool) {j : Nat} (h : j < p.ports.length) : (mixTo p r j).set j (opX p r j) = mixTo p r (j + 1) := by
  unfold mixTo
  apply List.ext_getElem?
  intro i
  rw [List.getElem?_set, List.getElem?_map, List.getElem?_map, List.length_map, List.length_range]
  by_cases e : j = i
  · subst e
    rw [if_pos rfl, if_pos h, List.getElem?_range h]
    show some _ = some (if j < j + 1 then _ else _)
    rw [if_pos (by omega)]
  · rw [if_neg e]
    by_cases h2 : i < p.ports.length
    · rw [List.getElem?_range h2]
      show some (if i < j then _ else _) = some (if i < j + 1 then _ else _)
      by_cases h3 : i < j
      · rw [if_pos h3, if_pos (by omega)]
      · rw [if_neg h3, if_neg (by omega)]
    · rw [List.getElem?_eq_none (by simp; omega)]; rfl
theorem mix_all (p : P) (r : List Bool) : mixTo p r p.ports.length = opTo p r p.ports.length := by
  unfold mixTo opTo
  refine List.map_congr_left fun k hk => ?_
  rw [if_pos (List.mem_range.1 hk)]
theorem rows_len {l : L} {O : List (List Bool)} (h : rowsB l O = true) : O.length = l.plans.length ∧ ∀ b, b < l.plans.length → (O.getD b []).length = (pl l b).ports.length := by
  unfold rowsB rowsTo at h
  simp only [Bool.and_eq_true, decide_eq_true_eq, List.all_eq_true, List.mem_range] at h
  exact ⟨h.1.symm, fun b hb => (h.2 b hb).symm⟩
theorem rowP_of {w' : World} {B : Nat} {A : Option Addr} {n c : Nat} {L : List PP} (h : Own w' B 60 2 (.slice A n c) (L.map PP.cells)) (hi : ∀ x ∈ L, x.in_ w') : RowP w' A n c (L.map PP.p) := by
  have r := Row.own (g := PP.cells) h (by decide)
  exact ⟨by rw [List.length_map]; exact r.len, r.cap, r.nil, r.mx, L, rfl, r.sl, hi⟩
set_option maxHeartbeats 16000000 in
theorem o_opened {l : L} {O : List (List Bool)} {A : Option Addr} {c : Nat} {B : Option Addr} {d : Nat} {C : Option Addr} {e : Nat} {w : World} (hr : LanR w l A c B d) (hs : Small l) (hR : RowL bc w C O.length e O) (hrw : rowsB l O = true) :
    Calls Try.prog 53 #[lv l A c B d, .slice C O.length e] w fun en w' => ∃ A' c', en = .returned (lv (l.op O) A' c' none 0) ∧ (∀ W, Stay (fun b => b < w.heap.size) w' W → LanR W (l.op O) A' c' none 0) ∧ Below w.heap.size w w' := by
  have hn8 := hs.plans
  have hpm := Lib.hid hs.ports
  have H := Lib.hid hr
  have HRL := Lib.hid hR
  have hrl := Lib.hid (rows_len hrw)
  obtain ⟨w0, hw0⟩ : ∃ W, W = ((w.alloc (.cells #[.int .i64 l.segs, .slice A l.plans.length c, .slice B l.hosts.length d] 25)).alloc (.cells #[.int .i64 0, .slice none 0 0, .slice none 0 0] 25)).alloc (.cells #[.int .i64 l.segs, .slice none 0 0, .slice none 0 0] 25) := ⟨_, rfl⟩
  obtain ⟨b2, hb2⟩ : ∃ b, b = w.heap.size + 1 := ⟨_, rfl⟩
  obtain ⟨b3, hb3⟩ : ∃ b, b = w.heap.size + 1 + 1 := ⟨_, rfl⟩
  have B0 := Lib.hid (show Below w.heap.size w w0 by rw [hw0]; exact (((Below.refl _ _).alloc (Nat.le_refl _) _).alloc (by simp) _).alloc (by simp; omega) _)
  have X0 := Lib.hid (show Bx w0 w.heap.size 25 #[.int .i64 l.segs, .slice A l.plans.length c, .slice B l.hosts.length d] by rw [hw0]; exact ((Bx.new _ _ _ rfl).alloc _).alloc _)
  have Y0 := Lib.hid (show Bx w0 b2 25 #[.int .i64 0, .slice none 0 0, .slice none 0 0] by rw [hw0, hb2]; exact (Bx.new _ _ _ (by simp)).alloc _)
  have Z0 := Lib.hid (show Bx w0 b3 25 #[.int .i64 l.segs, .slice none 0 0, .slice none 0 0] by rw [hw0, hb3]; exact Bx.new _ _ _ (by simp))
  have hd2 := Lib.hid (show w.heap.size ≤ b2 ∧ w.heap.size ≠ b2 ∧ w.heap.size ≤ b3 ∧ w.heap.size ≠ b3 ∧ b2 ≠ b3 by omega)
  clear hr hs hR hrw
  go_enter Try.func53, Try.ntmps53
  go_upto_region 2 with fail
  rw [← hw0, ← hb3, ← hb2]
  clear hw0 hb2 hb3
  have x0 := X0.out.c (i := 0) rfl
  have x1 := X0.out.c (i := 1) rfl
  have x2 := X0.out.c (i := 2) rfl
  have zz := X0.out.lt
  have hsz0 := Lib.hid (show w.heap.size < w0.heap.size ∧ b2 < w0.heap.size ∧ b3 < w0.heap.size from ⟨X0.out.lt, Y0.out.lt, Z0.out.lt⟩)
  go_wp2_with fail
  clear x0 x1 x2 zz
  go_loopw [6, 7, 8, 9, 16] (fun a6 a7 a8 a9 i wr => ∃ (b : Nat) (K : List PP) (v : Value), b ≤ l.plans.length ∧ i = .int .i64 b ∧ K.map PP.p = opsTo l O b ∧ Own wr w0.heap.size 60 2 v (K.map PP.cells) ∧ (∀ x ∈ K, Own wr w0.heap.size 57 3 (.slice x.A x.p.ports.length x.c) (x.p.ports.map kc)) ∧ w0.heap.size ≤ wr.heap.size ∧ Bx wr w.heap.size 25 #[.int .i64 l.segs, .slice A l.plans.length c, .slice B l.hosts.length d] ∧ Bx wr b2 25 #[.int .i64 0, .slice none 0 0, .slice none 0 0] ∧ Bx wr b3 25 #[.int .i64 l.segs, v, .slice none 0 0] ∧ Below w.heap.size w wr) (fun _ _ _ _ i _ => l.plans.length - (intOf i).toNat)
  case atStart => exact ⟨0, [], _, by omega, rfl, rfl, Own.nil _ _ _ _, (fun x hx => by cases hx), Nat.le_refl _, X0.out, Y0.out, Z0.out, B0.out⟩
  case round =>
    clear X0 Y0 Z0 B0
    obtain ⟨b, K, v, hk9, rfl, hL, hown, hin, hsz, hX, hY, hZ, hb⟩ := hrel
    obtain ⟨wo, hwo⟩ : ∃ W, W = wr := ⟨_, rfl⟩
    subst hwo
    obtain ⟨A3, c3, hv3⟩ := own_form hown
    subst hv3
    have hlenK : K.length = b := by have := congrArg List.length hL; rw [List.length_map, opsTo_len] at this; exact this
    have hlenL := Lib.hid (show K.length ≤ 100 by omega)
    replace hlenK := Lib.hid hlenK
    by_cases hbn : b < l.plans.length
    · have hbl : (b : Int) < (l.plans.length : Int) := by omega
      obtain ⟨p, hp⟩ : ∃ p, l.plans[b]? = some p := ⟨_, List.getElem?_eq_getElem hbn⟩
      have hbO : b < O.length := by rw [hrl.out.1]; exact hbn
      obtain ⟨y, hy⟩ : ∃ y, O[b]? = some y := ⟨_, List.getElem?_eq_getElem hbO⟩
      have hpp := Lib.hid (show pl l b = p by have := plan_get hbn; rw [hp] at this; exact (Option.some.inj this).symm)
      have hyy := Lib.hid (show O.getD b [] = y by rw [List.getD_eq_getElem?_getD, hy]; rfl)
      have hyl : y.length = p.ports.length := by have := hrl.out.2 b hbn; rw [hyy.out, hpp.out] at this; exact this
      obtain ⟨bS8, oS8, A8, c8, hAS8, hbS8, q8_0, q8_1, hrow8⟩ := RowP.at_ (H.out.plans.below hb) hp
      subst hAS8
      have hpl := hpm.out p (List.mem_of_getElem? hp)
      obtain ⟨w8, hw8⟩ : ∃ W, W = wo.alloc (.cells #[.int .i64 p.id, .slice A8 p.ports.length c8] 60) := ⟨_, rfl⟩
      obtain ⟨b7, hb7⟩ : ∃ b, b = wo.heap.size := ⟨_, rfl⟩
      have bb8 : Below wo.heap.size wo w8 := by rw [hw8]; exact (Below.refl _ _).alloc (Nat.le_refl _) _
      have X8 := Lib.hid (show Bx w8 b7 60 #[.int .i64 p.id, .slice A8 p.ports.length c8] by rw [hw8]; exact Bx.new _ _ _ hb7.symm)
      have hcl := Lib.hid (fun W (hW : Below w8.heap.size w8 W) => clone_link (A := A8) (c := c8) (l := p.ports) (w := W) ((hrow8.below bb8).below hW).sl (wholeK _) rfl hrow8.nil (by omega))
      have b8 := Lib.hid (bt hb bb8)
      have own8 := Lib.hid (hown.below bb8)
      have in8 := Lib.hid (fun x hx => (hin x hx).below bb8)
      have X8l := Lib.hid (hX.below bb8)
      have Y8l := Lib.hid (hY.below bb8)
      have Z8l := Lib.hid (hZ.below bb8)
      have hsz8 := Lib.hid (Nat.le_trans hsz bb8.size)
      have h78 := Lib.hid (show b7 < w8.heap.size ∧ w0.heap.size ≤ b7 from ⟨X8.out.lt, by rw [hb7]; exact hsz⟩)
      have hpl0 : p.ports.length ≤ 10 := hpl
      replace hL := Lib.hid hL
      replace hp := Lib.hid hp
      replace hy := Lib.hid hy
      clear hown hin hX hY hZ hsz hrow8 hb bb8
      go_upto_region 5 with fail
      rw [← hw8, ← hb7]
      clear hw8 hb7 q8_0 q8_1 hbS8
      have o0 := X8.out.c (i := 0) rfl
      have o1 := X8.out.c (i := 1) rfl
      have zz8 := X8.out.lt
      go_wp2_with fail
      go_at_call 89
      (with_reducible refine (hcl.out _ (Below.refl _ _)).mono ?_)
      rintro e9 w9 ⟨A9, c9, rfl, own9, hb9⟩
      have O9 := Lib.hid own9
      have B9 := Lib.hid hb9
      clear hb9 own9 o0 o1 zz8 hcl
      go_wp2_with fail
      obtain ⟨wi0, hwi0⟩ : ∃ W, W = w9 := ⟨_, rfl⟩
      subst hwi0
      go_loopw [9, 26] (fun a9 i wk => ∃ j : Nat, j ≤ p.ports.length ∧ i = .int .i64 j ∧ Own wk w8.heap.size 57 3 (.slice A9 p.ports.length c9) ((mixTo p y j).map kc) ∧ Below w8.heap.size w8 wk) (fun _ i _ => p.ports.length - (intOf i).toNat)
      case atStart => exact ⟨0, by omega, rfl, by rw [mix_zero]; exact O9.out, B9.out⟩
      case round =>
        clear O9 B9
        obtain ⟨j, hj, rfl, hoR, hb⟩ := hrel
        obtain ⟨wj, hwj⟩ : ∃ W, W = wr := ⟨_, rfl⟩
        subst hwj
        by_cases hjn : j < p.ports.length
        · have hjl : (j : Int) < (p.ports.length : Int) := by omega
          obtain ⟨x, hx⟩ : ∃ x, p.ports.getD j default = x := ⟨_, rfl⟩
          have hmx := mix_at p y hjn
          rw [hx] at hmx
          have hms := mix_succ p y hjn
          have hox : opX p y j = ⟨x.seg, x.cost, x.up && y.getD j false⟩ := by unfold opX; rw [hx]
          obtain ⟨vo, hvo⟩ : ∃ v, y.getD j false = v := ⟨_, rfl⟩
          have hyj : y[j]? = some vo := by rw [← hvo, List.getD_eq_getElem?_getD, List.getElem?_eq_getElem (by omega)]; rfl
          rw [hvo] at hox
          obtain ⟨g, hg, hg0, hg1⟩ := own_ptr hoR (by intro q; have q2 := congrArg List.length q; rw [List.length_map, mix_len, List.length_nil] at q2; omega)
          subst hg
          have hkc : ((mixTo p y j).map kc)[j]? = some (kc x) := by rw [List.getElem?_map, hmx]; rfl
          have c2 := own_cell hoR (by decide) hkc (i := 2) rfl
          have f2 := (own_free hoR (j * 3 + 2)).1
          have hpu := Lib.hid (fun u : Bool => own_put hoR hkc (show 2 < 3 by decide) (v := .bool u) rfl)
          have hset := Lib.hid (show ∀ u : Bool, opX p y j = ⟨x.seg, x.cost, u⟩ → ((mixTo p y j).map kc).set j ((kc x).set 2 (.bool u)) = (mixTo p y (j + 1)).map kc from fun u hu => by rw [← hms, List.map_set, hu]; rfl)
          have hgb := Lib.hid hg0
          obtain ⟨b5, o5, A5, c5, hCC, hb5, u0, ROW⟩ := (HRL.out.below (bt b8.out hb)).at_ hy.out
          subst hCC
          obtain ⟨b6, o6, hA5, hb6, u3⟩ := ROW.bat hyj
          subst hA5
          rw [hyl] at u0
          have hmxc := hoR
          have hcap := (Row.own hoR (by decide)).cap
          have hmxx := (Row.own hoR (by decide)).mx
          have hbO2 : (b : Int) < (O.length : Int) := by omega
          replace ROW := Lib.hid ROW
          replace hb := Lib.hid hb
          replace hmx := Lib.hid hmx
          replace hms := Lib.hid hms
          replace hvo := Lib.hid hvo
          replace hyj := Lib.hid hyj
          replace hkc := Lib.hid hkc
          replace hx := Lib.hid hx
          clear hoR hmxc hg0
          obtain ⟨ux, hux⟩ : ∃ u, x.up = u := ⟨_, rfl⟩
          rw [hux] at c2 hox
          replace hox := Lib.hid hox
          replace hux := Lib.hid hux
          cases ux
          · have hs9 := Lib.hid (hset.out false hox.out)
            have own9 := Lib.hid (hpu.out false)
            rw [hs9.out] at own9
            clear hpu hset
            go_wp2_with fail
            go_roundw
            case rel => exact ⟨j + 1, by omega, by go_num, own9.out, hb.out.setCell hgb.out _⟩
            case measure => simp [intOf]; omega
          · have hs9 := Lib.hid (hset.out vo (by rw [hox.out, Bool.true_and]))
            have own9 := Lib.hid (hpu.out vo)
            rw [hs9.out] at own9
            clear hpu hset
            go_wp2_with fail
            go_roundw
            case rel => exact ⟨j + 1, by omega, by go_num, own9.out, hb.out.setCell hgb.out _⟩
            case measure => simp [intOf]; omega
        · obtain rfl : j = p.ports.length := by omega
          have bk := Lib.hid hb
          have own7 := Lib.hid (own8.out.kept (show w8.grownBy wj none from ⟨hb.os, hb.tape, hb.output, hb.size, fun k hk _ => hb.block k hk⟩) (by cases (Value.slice A3 K.length c3).ownBlock <;> simp))
          have in7 := Lib.hid (fun x hx => (in8.out x hx).below hb)
          have X7 := Lib.hid (X8l.out.below hb)
          have Y7 := Lib.hid (Y8l.out.below hb)
          have Z7 := Lib.hid (Z8l.out.below hb)
          have P7 := Lib.hid (X8.out.below hb)
          have b7' := Lib.hid (bt b8.out hb)
          have hsz7 := Lib.hid (Nat.le_trans hsz8.out hb.size)
          rw [mix_all] at hoR
          have oR7 := Lib.hid hoR
          clear hoR hb own8 in8 X8l Y8l Z8l
          have hcl := Lib.hid (show PP.cells ⟨opP p y, A9, c9⟩ = [.int .i64 p.id, .slice A9 p.ports.length c9] by unfold PP.cells opP; rw [opTo_len])
          have p0 := P7.out.c (i := 0) rfl
          have p1 := P7.out.c (i := 1) rfl
          have zp := P7.out.lt
          have z1 := Z7.out.c (i := 1) rfl
          have zz := Z7.out.lt
          obtain ⟨w9, hw9⟩ : ∃ W, W = wj.alloc (.cells #[.int .i64 p.id, .slice A9 p.ports.length c9] 60) := ⟨_, rfl⟩
          have bq : Below wj.heap.size wj w9 := by rw [hw9]; exact (Below.refl _ _).alloc (Nat.le_refl _) _
          have hsl := Lib.hid (show Sl w9 2 (some ⟨wj.heap.size, 0, none⟩) ([PP.mk (opP p y) A9 c9].map PP.cells) from bx_sl (T := 60) (vals := #[.int .i64 p.id, .slice A9 p.ports.length c9]) (by rw [hw9]; exact Bx.new _ _ _ rfl) (by show _ = (PP.cells _ ++ []); rw [hcl.out]; rfl) (by intro cc hcc; simp at hcc; subst hcc; rfl))
          have ownq := Lib.hid (own7.out.below bq)
          have hn1 : Hid ((K.map PP.cells).length + ([PP.mk (opP p y) A9 c9].map PP.cells).length ≤ 1000000) := Lib.hid (by rw [List.length_map]; have := hlenL.out; simp; omega)
          have hvl : Hid ((K.map PP.cells).length = K.length) := Lib.hid (by rw [List.length_map])
          have hB2 : Hid (w0.heap.size ≤ w9.heap.size) := Lib.hid (Nat.le_trans hsz7.out bq.size)
          have inq := Lib.hid (fun x hx => (in7.out x hx).below bq)
          have oRq := Lib.hid (oR7.out.below bq)
          have Xq := Lib.hid (X7.out.below bq)
          have Yq := Lib.hid (Y7.out.below bq)
          have Zq := Lib.hid (Z7.out.below bq)
          have bbq := Lib.hid (bt b7'.out bq)
          have hlo : Hid (∀ q, (Value.slice A3 K.length c3).ownBlock = some q → w0.heap.size ≤ q) := Lib.hid (fun q hq => And.left (ownq.out.lt q hq))
          have hL4 : Hid ((K ++ [PP.mk (opP p y) A9 c9]).map PP.p = opsTo l O (b + 1)) := Lib.hid (by rw [List.map_append, hL.out, opsTo_succ, hpp.out, hyy.out]; rfl)
          have hin4 : Hid (∀ W, w9.grownBy W (Value.slice A3 K.length c3).ownBlock → ∀ z ∈ K ++ [PP.mk (opP p y) A9 c9], Own W w0.heap.size 57 3 (.slice z.A z.p.ports.length z.c) (z.p.ports.map kc)) := Lib.hid (fun W hg z hz => by
            rcases List.mem_append.1 hz with hz | hz
            · exact (inq.out z hz).kept hg (by
                cases hob9 : (Value.slice z.A z.p.ports.length z.c).ownBlock with
                | none => exact .inl rfl
                | some q => exact .inr (fun e => own_ne (inq.out z hz) ownq.out (by decide) q hob9 e.symm))
            · obtain rfl := List.mem_singleton.1 hz
              have h9 : Own w9 w0.heap.size 57 3 (.slice A9 (opP p y).ports.length c9) ((opP p y).ports.map kc) := by
                have := oRq.out.base hsz8.out
                unfold opP
                simp only
                rw [opTo_len]; exact this
              exact h9.kept hg (by
                cases hob9 : (Value.slice A9 (opP p y).ports.length c9).ownBlock with
                | none => exact .inl rfl
                | some q => exact .inr (fun e => own_ne h9 ownq.out (by decide) q hob9 e.symm)))
          clear bq own7 in7 X7 Y7 Z7 P7
          go_wp2_with (at_builtin
                       rw [← hw9]
                       (refine wpList_append_sl rfl (.tmp 49) (.tmp 54) 22 rfl elP (by rfl) ownq.out (by rfl) (by rfl) hsl.out (wholeP _) (fun h => by cases h) hn1.out hB2.out ?_)
                       intro v' w4 own1 grow1 new1
                       have hZ4 := Lib.hid (Zq.out.grown grow1 (fun e => by have := hlo.out _ e.symm; have := hsz0.out; omega))
                       have hz4c := hZ4.out.c (i := 1) rfl
                       have hz4f := hZ4.out.f 1
                       have hz4l := hZ4.out.lt
                       have own2 := Lib.hid (own_snoc own1)
                       obtain ⟨A4, c4, hv4⟩ := own_form own2.out
                       subst hv4
                       clear own1
                       replace new1 := Lib.hid new1
                       replace grow1 := Lib.hid grow1
                       clear z1 zz)
          have hgS := setCell_grown w4 b3 1 (.slice A4 (K ++ [PP.mk (opP p y) A9 c9]).length c4)
          have hob3 : (Value.slice A4 (K ++ [PP.mk (opP p y) A9 c9]).length c4).ownBlock ≠ some b3 := fun q => by have := (own2.out.lt _ q).1; have := hsz0.out; omega
          have own5 := Lib.hid (own2.out.kept hgS (.inr hob3))
          have in5 := Lib.hid (fun z hz => (hin4.out w4 grow1.out z hz).kept hgS (by
            cases hob9 : (Value.slice z.A z.p.ports.length z.c).ownBlock with
            | none => exact .inl rfl
            | some q => exact .inr (fun q2 => by have := ((hin4.out w4 grow1.out z hz).lt _ hob9).1; have := Option.some.inj q2; have := hsz0.out; omega)))
          have X5 := Lib.hid ((Xq.out.grown grow1.out (fun q => by have := hlo.out _ q.symm; have := hsz0.out; omega)).grown hgS (fun q => by have := Option.some.inj q; have := hd2.out; omega))
          have Y5 := Lib.hid ((Yq.out.grown grow1.out (fun q => by have := hlo.out _ q.symm; have := hsz0.out; omega)).grown hgS (fun q => by have := Option.some.inj q; have := hd2.out; omega))
          have Z5 := Lib.hid (hZ4.out.set 1 (.slice A4 (K ++ [PP.mk (opP p y) A9 c9]).length c4))
          have bb5 := Lib.hid (show Below w.heap.size w (w4.setCell ⟨b3, 1, none⟩ (.slice A4 (K ++ [PP.mk (opP p y) A9 c9]).length c4)) from (bbq.out.grown grow1.out bbq.out.size (fun q hq => by have := hlo.out q hq; have := hsz0.out; omega)).setCell hd2.out.2.2.1 _)
          have sz5 := Lib.hid (show w0.heap.size ≤ (w4.setCell ⟨b3, 1, none⟩ (.slice A4 (K ++ [PP.mk (opP p y) A9 c9]).length c4)).heap.size from Nat.le_trans (Nat.le_trans hB2.out grow1.out.size) hgS.size)
          have hlk : (K ++ [PP.mk (opP p y) A9 c9]).length = K.length + 1 := by simp
          rw [hlk] at own5 in5 X5 Y5 Z5 bb5 sz5
          go_roundw
          case rel => exact ⟨b + 1, _, _, by omega, by go_num, hL4.out, own5.out, in5.out, sz5.out, X5.out, Y5.out, Z5.out, bb5.out⟩
          case measure => simp [intOf]; omega
    · obtain rfl : b = l.plans.length := by omega
      have hlp : (l.op O).plans.length = K.length := by rw [op_len]; exact hlenK.out.symm
      have z0 := hZ.c (i := 0) rfl
      have z1 := hZ.c (i := 1) rfl
      have z2 := hZ.c (i := 2) rfl
      have y0 := hY.c (i := 0) rfl
      have y1 := hY.c (i := 1) rfl
      have y2 := hY.c (i := 2) rfl
      have g0 := hY.f 0
      have g1 := hY.f 1
      have g2 := hY.f 2
      have zz := hZ.lt
      have zy := hY.lt
      have hne1 : ¬ b2 = b3 := hd2.out.2.2.2.2
      have hne2 : ¬ b3 = b2 := fun e => hd2.out.2.2.2.2 e.symm
      have hown9 := Lib.hid hown
      have hin9 := Lib.hid hin
      have hY9 := Lib.hid hY
      have hb9 := Lib.hid hb
      have hsz9 := Lib.hid hsz
      replace hL := Lib.hid hL
      replace hlp := Lib.hid hlp
      clear hown hin hY hb hsz hX hZ
      go_wp2_with fail
      obtain ⟨w6, hw6⟩ : ∃ W, W = ((wo.setCell ⟨b2, 0, none⟩ (.int .i64 l.segs)).setCell ⟨b2, 1, none⟩ (.slice A3 K.length c3)).setCell ⟨b2, 2, none⟩ (.slice none 0 0) := ⟨_, rfl⟩
      have hob2 : (Value.slice A3 K.length c3).ownBlock ≠ some b2 := fun q => by have := (hown9.out.lt _ q).1; have := hsz0.out; omega
      have hg6 : wo.grownBy w6 (some b2) := by rw [hw6]; exact ((setCell_grown _ _ _ _).trans (setCell_grown _ _ _ _)).trans (setCell_grown _ _ _ _)
      have Y6 := Lib.hid (show Bx w6 b2 25 #[.int .i64 l.segs, .slice A3 K.length c3, .slice none 0 0] by rw [hw6]; exact Bx.three hY9.out)
      have own6 := Lib.hid (hown9.out.kept hg6 (.inr hob2))
      have in6 := Lib.hid (fun x hx => (hin9.out x hx).kept hg6 (by
        cases hob9 : (Value.slice x.A x.p.ports.length x.c).ownBlock with
        | none => exact .inl rfl
        | some q => exact .inr (fun q2 => by have := ((hin9.out x hx).lt _ hob9).1; have := Option.some.inj q2; have := hsz0.out; omega)))
      have B6 := Lib.hid (show Below w.heap.size w w6 from hb9.out.grown hg6 hb9.out.size (fun k q => by have := Option.some.inj q; have := hd2.out; omega))
      rw [← hw6]
      clear hw6 hg6 z0 z1 z2 y0 y1 y2 g0 g1 g2 zz zy
      have y0 := Y6.out.c (i := 0) rfl
      have y1 := Y6.out.c (i := 1) rfl
      have y2 := Y6.out.c (i := 2) rfl
      refine bodyPost_ret (v := .agg #[.int .i64 l.segs, .slice A3 K.length c3, .slice none 0 0]) (by simp [results, Try.results53, go_sem, y0, y1, y2]) rfl ⟨A3, c3, ?_, fun W hW => ⟨?_, Row.zero _⟩, B6.out⟩
      · show _ = Ending.returned (.agg #[.int .i64 l.segs, .slice A3 (l.op O).plans.length c3, .slice none 0 0])
        rw [hlp.out]
      · have hpl : (l.op O).plans = K.map PP.p := hL.out.symm
        rw [hlp.out, hpl]
        exact rowP_of (own_stay own6.out hW (fun k q h => by have := (own6.out.lt _ q).1; have := hsz0.out; have h : k < w.heap.size := h; omega)) (fun x hx => Row.own (own_stay (in6.out x hx) hW (fun k q h => by have := ((in6.out x hx).lt _ q).1; have := hsz0.out; have h : k < w.heap.size := h; omega)) (by decide))
end Go.Proofs.Ytgcmklliafcffaa.LanP
