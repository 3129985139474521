/-
  Contract of lan's leasts.
-/
import Derived.Test.YtgcmklliafcffaaLanG
import Derived.Test.YtgcmklliafcffaaRowK
import Derived.BigRegion
import Derived.Deep.LoopGhost
namespace Go.Proofs.Ytgcmklliafcffaa.LanP
open Go.RowKit Go.Sort Go.Proofs.Ytgcmklliafcffaa.SliceP Go.Proofs.Ytgcmklliafcffaa.BoxP
open Go.Proofs.Ytgcmklliafcffaa.IntP (RowI SlI OwnI)
open Go.Proofs.Ytgcmklliafcffaa.BoolP (RowB SlB OwnB)
open Go.Proofs.Ytgcmklliafcffaa.MacP (classI class_yes class_no ref_right_no ref_right_yes ref_class)
open Go.Proofs.Ytgcmklliafcffaa.LruP (hasI placeI has_more has_hit place_hit place_none place_geq has_true has_false)
set_option linter.unusedVariables false
set_option maxRecDepth 100000
/-- Eight numbers. -/
def A8 (f : Nat → Int) : Array Value := #[.int .i64 (f 0), .int .i64 (f 1), .int .i64 (f 2), .int .i64 (f 3), .int .i64 (f 4), .int .i64 (f 5), .int .i64 (f 6), .int .i64 (f 7)]
theorem A8_get (f : Nat → Int) {k : Nat} (hk : k < 8) : (A8 f)[k]? = some (.int .i64 (f k)) := by
  match k, hk with
  | 0, _ => rfl
  | 1, _ => rfl
  | 2, _ => rfl
  | 3, _ => rfl
  | 4, _ => rfl
  | 5, _ => rfl
  | 6, _ => rfl
  | 7, _ => rfl
def upd (f : Nat → Int) (k : Nat) (v : Int) (i : Nat) : Int := if i = k then v else f i
theorem A8_set (f : Nat → Int) {k : Nat} (hk : k < 8) (v : Int) : (A8 f).setIfInBounds k (.int .i64 v) = A8 (upd f k v) := by
  match k, hk with
  | 0, _ => rfl
  | 1, _ => rfl
  | 2, _ => rfl
  | 3, _ => rfl
  | 4, _ => rfl
  | 5, _ => rfl
  | 6, _ => rfl
  | 7, _ => rfl
theorem A8_congr {f g : Nat → Int} (h : ∀ k, k < 8 → f k = g k) : A8 f = A8 g := by
  unfold A8
  rw [h 0 (by omega), h 1 (by omega), h 2 (by omega), h 3 (by omega), h 4 (by omega), h 5 (by omega), h 6 (by omega), h 7 (by omega)]
theorem put8 {w : World} {b : Nat} {ty : TypeId} {u0 u1 u2 u3 u4 u5 u6 u7 : Value} (h : Bx w b ty #[u0, u1, u2, u3, u4, u5, u6, u7]) (v0 v1 v2 v3 v4 v5 v6 v7 : Value) : Bx ((((((((w.setCell ⟨b, 0, none⟩ v0).setCell ⟨b, 1, none⟩ v1).setCell ⟨b, 2, none⟩ v2).setCell ⟨b, 3, none⟩ v3).setCell ⟨b, 4, none⟩ v4).setCell ⟨b, 5, none⟩ v5).setCell ⟨b, 6, none⟩ v6).setCell ⟨b, 7, none⟩ v7) b ty #[v0, v1, v2, v3, v4, v5, v6, v7] := by
  have h0 : Bx _ b ty #[v0, u1, u2, u3, u4, u5, u6, u7] := h.set 0 v0
  have h1 : Bx _ b ty #[v0, v1, u2, u3, u4, u5, u6, u7] := h0.set 1 v1
  have h2 : Bx _ b ty #[v0, v1, v2, u3, u4, u5, u6, u7] := h1.set 2 v2
  have h3 : Bx _ b ty #[v0, v1, v2, v3, u4, u5, u6, u7] := h2.set 3 v3
  have h4 : Bx _ b ty #[v0, v1, v2, v3, v4, u5, u6, u7] := h3.set 4 v4
  have h5 : Bx _ b ty #[v0, v1, v2, v3, v4, v5, u6, u7] := h4.set 5 v5
  have h6 : Bx _ b ty #[v0, v1, v2, v3, v4, v5, v6, u7] := h5.set 6 v6
  have h7 : Bx _ b ty #[v0, v1, v2, v3, v4, v5, v6, v7] := h6.set 7 v7
  exact h7
theorem stay8 {n b : Nat} {w0 w : World} (h : Below n w0 w) (hb : n ≤ b) (v0 v1 v2 v3 v4 v5 v6 v7 : Value) : Below n w0 ((((((((w.setCell ⟨b, 0, none⟩ v0).setCell ⟨b, 1, none⟩ v1).setCell ⟨b, 2, none⟩ v2).setCell ⟨b, 3, none⟩ v3).setCell ⟨b, 4, none⟩ v4).setCell ⟨b, 5, none⟩ v5).setCell ⟨b, 6, none⟩ v6).setCell ⟨b, 7, none⟩ v7) := ((((((((h.setCell hb v0).setCell hb v1).setCell hb v2).setCell hb v3).setCell hb v4).setCell hb v5).setCell hb v6).setCell hb v7)
def ini (k : Nat) (s : Nat) : Int := if s < k then s else 0
theorem ini_zero : A8 (ini 0) = #[.int .i64 0, .int .i64 0, .int .i64 0, .int .i64 0, .int .i64 0, .int .i64 0, .int .i64 0, .int .i64 0] := rfl
theorem ini_succ (k : Nat) : upd (ini k) k k = ini (k + 1) := by
  funext i
  unfold upd ini
  by_cases h : i = k
  · rw [if_pos h, if_pos (by omega), h]
  · rw [if_neg h]
    by_cases h2 : i < k
    · rw [if_pos h2, if_pos (by omega)]
    · rw [if_neg h2, if_neg (by omega)]
def mes (f : Nat → Int) : Nat := (f 0).toNat + (f 1).toNat + (f 2).toNat + (f 3).toNat + (f 4).toNat + (f 5).toNat + (f 6).toNat + (f 7).toNat
theorem mes_upd (f : Nat → Int) {k : Nat} (hk : k < 8) (v : Int) : mes (upd f k v) + (f k).toNat = mes f + v.toNat := by
  match k, hk with
  | 0, _ => simp [mes, upd]; omega
  | 1, _ => simp [mes, upd]; omega
  | 2, _ => simp [mes, upd]; omega
  | 3, _ => simp [mes, upd]; omega
  | 4, _ => simp [mes, upd]; omega
  | 5, _ => simp [mes, upd]; omega
  | 6, _ => simp [mes, upd]; omega
  | 7, _ => simp [mes, upd]; omega
/-- What the program's numbers keep, while pairs are looked at. -/
structure Gd (E : List (Int × Int)) (n : Nat) (f : Nat → Int) : Prop where
  low : ∀ s : Nat, s < n → 0 ≤ f s ∧ f s ≤ s ∧ lab E (f s) = lab E s
  high : ∀ s : Nat, n ≤ s → f s = 0
theorem Gd.ini (E : List (Int × Int)) (n : Nat) : Gd E n (ini n) := ⟨fun s hs => by unfold LanP.ini; rw [if_pos hs]; exact ⟨by omega, by omega, rfl⟩, fun s hs => by unfold LanP.ini; rw [if_neg (by omega)]⟩
theorem Gd.merge {E : List (Int × Int)} {n : Nat} {f : Nat → Int} (h : Gd E n f) {a b : Nat} (he : ((a : Int), (b : Int)) ∈ E) (ha : a < n) (hb : b < n) : Gd E n (upd (upd f a (min (f a) (f b))) b (min (f a) (f b))) := by
  have hj : lab E (a : Int) = lab E (b : Int) := lab_join E _ he
  have h1 := h.low a ha
  have h2 := h.low b hb
  have hm : 0 ≤ min (f a) (f b) ∧ min (f a) (f b) ≤ a ∧ min (f a) (f b) ≤ b ∧ lab E (min (f a) (f b)) = lab E a := by
    refine ⟨by omega, by omega, by omega, ?_⟩
    rcases min_is (f a) (f b) with ⟨e, _⟩ | ⟨e, _⟩
    · rw [e]; exact h1.2.2
    · rw [e, h2.2.2, hj]
  refine ⟨fun s hs => ?_, fun s hs => ?_⟩
  · unfold upd
    by_cases q1 : s = b
    · subst q1; rw [if_pos rfl]; exact ⟨hm.1, hm.2.2.1, hm.2.2.2.trans hj⟩
    · rw [if_neg q1]
      by_cases q2 : s = a
      · subst q2; rw [if_pos rfl]; exact ⟨hm.1, hm.2.1, hm.2.2.2⟩
      · rw [if_neg q2]; exact h.low s hs
  · unfold upd
    rw [if_neg (by omega), if_neg (by omega)]
    exact h.high s hs
theorem Gd.less {E : List (Int × Int)} {n : Nat} {f : Nat → Int} (h : Gd E n f) {a b : Nat} (ha : a < n) (hb : b < n) (hn : n ≤ 8) (hne : f a ≠ f b) : mes (upd (upd f a (min (f a) (f b))) b (min (f a) (f b))) < mes f := by
  have h1 := h.low a ha
  have h2 := h.low b hb
  have hab : a ≠ b := fun e => hne (by rw [e])
  have e1 := mes_upd f (k := a) (by omega) (min (f a) (f b))
  have e2 := mes_upd (upd f a (min (f a) (f b))) (k := b) (by omega) (min (f a) (f b))
  have e3 : upd f a (min (f a) (f b)) b = f b := by unfold upd; rw [if_neg (Ne.symm hab)]
  rw [e3] at e2
  omega
/-- .. and what they are when no pair differs. -/
def labF (l : L) (s : Nat) : Int := if s < l.n then lab l.pairs s else 0
theorem Gd.fin {l : L} (hf : l.fit) {f : Nat → Int} (h : Gd l.pairs l.n f) (hp : ∀ e ∈ l.pairs, f e.1.toNat = f e.2.toNat) : A8 f = A8 (labF l) := by
  refine A8_congr fun k _ => ?_
  unfold labF
  by_cases hk : k < l.n
  · rw [if_pos hk]
    have := lab_least (F := fun s => f s.toNat) (fit_pairs hf) (fun s h0 h1 => by
      have := h.low s.toNat (by omega)
      rw [show ((s.toNat : Nat) : Int) = s by omega] at this
      exact this) hp (s := (k : Int)) (by omega) (by omega)
    simpa using this
  · rw [if_neg hk]; exact h.high k (by omega)
theorem Row.set_at {α : Type} {g : α → List Value} {sz : Nat} {w : World} {A : Option Addr} {n c : Nat} {l : List α} (h : Row g sz w A n c l) {b : Nat} (hb : ∀ a, A = some a → a.block ≠ b) (o : Nat) (v : Value) : Row g sz (w.setCell ⟨b, o, none⟩ v) A n c l :=
  h.grown (setCell_grown w b o v) (fun a ha _ e => hb a ha (Option.some.inj e))
set_option maxHeartbeats 16000000 in
theorem o_leasts {l : L} {A : Option Addr} {c : Nat} {B : Option Addr} {d : Nat} {w : World} (hr : LanR w l A c B d) (hs : Small l) (hf : l.fit) (h8 : l.n ≤ 8) :
    Calls Try.prog 63 #[lv l A c B d] w fun e w' => e = .returned (.agg (A8 (labF l))) ∧ Below w.heap.size w w' := by
  have hn : (l.n : Int) = l.segs := by have := hf.1; unfold L.n; omega
  have hv : lv l A c B d = .agg #[.int .i64 (l.n : Int), .slice A l.plans.length c, .slice B l.hosts.length d] := by rw [hn]
  rw [hv]
  obtain ⟨w1, hw1⟩ : ∃ W, W = ((w.alloc (.cells #[.int .i64 (l.n : Int), .slice A l.plans.length c, .slice B l.hosts.length d] 25)).alloc (.cells #[.int .i64 0, .int .i64 0, .int .i64 0, .int .i64 0, .int .i64 0, .int .i64 0, .int .i64 0, .int .i64 0] 99)).alloc (.cells #[.int .i64 0, .int .i64 0, .int .i64 0, .int .i64 0, .int .i64 0, .int .i64 0, .int .i64 0, .int .i64 0] 99) := ⟨_, rfl⟩
  obtain ⟨b2, hb2⟩ : ∃ b, b = w.heap.size + 1 := ⟨_, rfl⟩
  obtain ⟨b3, hb3⟩ : ∃ b, b = b2 + 1 := ⟨_, rfl⟩
  have B1 := Lib.hid (show Below w.heap.size w w1 by rw [hw1]; exact ((((Below.refl _ _).alloc (Nat.le_refl _) _).alloc (by simp) _).alloc (by simp; omega) _))
  have X1 := Lib.hid (show Bx w1 w.heap.size 25 #[.int .i64 (l.n : Int), .slice A l.plans.length c, .slice B l.hosts.length d] by rw [hw1]; exact ((Bx.new _ _ _ rfl).alloc _).alloc _)
  have Y1 := Lib.hid (show Bx w1 b2 99 #[.int .i64 0, .int .i64 0, .int .i64 0, .int .i64 0, .int .i64 0, .int .i64 0, .int .i64 0, .int .i64 0] by rw [hw1, hb2]; exact (Bx.new _ _ _ (by simp)).alloc _)
  have Z1 := Lib.hid (show Bx w1 b3 99 (A8 (ini 0)) by rw [hw1, ini_zero, hb3, hb2]; exact Bx.new _ _ _ (by simp))
  have H := Lib.hid hr.plans
  have HS := Lib.hid hs
  have HF := Lib.hid hf
  clear hr hs hf hv
  obtain ⟨n, hn9⟩ : ∃ n, l.n = n := ⟨_, rfl⟩
  rw [hn9] at X1 hw1 h8 ⊢
  replace hn := Lib.hid hn
  go_enter Try.func63, Try.ntmps63
  go_wp2_with fail
  go_step3
  go_upto_region 2 with fail
  rw [← hw1, ← hb2, ← hb3]
  clear hw1
  have hd2 := Lib.hid (show w.heap.size ≤ b2 ∧ w.heap.size ≤ b3 ∧ b2 ≠ b3 ∧ w.heap.size ≠ b2 ∧ w.heap.size ≠ b3 by omega)
  clear hb2 hb3
  have z1 := X1.out.lt
  have z2 := Y1.out.lt
  have z3 := Z1.out.lt
  have x0 := X1.out.c (i := 0) rfl
  have x1 := X1.out.c (i := 1) rfl
  go_wp2_with fail
  clear x0 x1 z1 z2 z3
  go_loopw [12] (fun i wr => ∃ k : Nat, k ≤ n ∧ i = .int .i64 k ∧ Bx wr b3 99 (A8 (ini k)) ∧ Bx wr b2 99 #[.int .i64 0, .int .i64 0, .int .i64 0, .int .i64 0, .int .i64 0, .int .i64 0, .int .i64 0, .int .i64 0] ∧ Bx wr w.heap.size 25 #[.int .i64 n, .slice A l.plans.length c, .slice B l.hosts.length d] ∧ Below w.heap.size w wr) (fun i _ => n - (intOf i).toNat)
  case atStart => exact ⟨0, by omega, rfl, Z1.out, Y1.out, X1.out, B1.out⟩
  case round =>
    clear Z1 Y1 X1 B1
    obtain ⟨k, hk, rfl, hZ, hY, hX, hb⟩ := hrel
    have z1 := hX.lt
    have z3 := hZ.lt
    by_cases hkn : k < n
    · have hkl : (k : Int) < (n : Int) := by omega
      have hk8 : (k : Int) < 8 := by omega
      have ck := hZ.c (A8_get (ini k) (show k < 8 by omega))
      have fk := hZ.f k
      replace hZ := Lib.hid hZ
      replace hY := Lib.hid hY
      replace hX := Lib.hid hX
      replace hb := Lib.hid hb
      go_wp2_with fail
      go_roundw
      case rel =>
        refine ⟨k + 1, by omega, by go_num, ?_, hY.out.other hd2.out.2.2.1 _ _, hX.out.other hd2.out.2.2.2.2 _ _, hb.out.setCell hd2.out.2.1 _⟩
        have := hZ.out.set k (.int .i64 (k : Int))
        rw [A8_set _ (by omega), ini_succ] at this
        exact this
      case measure => simp [intOf]; omega
    · obtain rfl : n = k := by omega
      have hC := Lib.hid (o_joined (H.out.below hb) (by have := HS.out.plans; omega) HS.out.ports)
      have x1 := hX.c (i := 1) rfl
      replace hZ := Lib.hid hZ
      replace hY := Lib.hid hY
      replace hX := Lib.hid hX
      have hpE := Lib.hid (fit_pairs HF.out)
      rw [hn9] at hpE
      obtain ⟨E, hE⟩ : ∃ E, l.pairs = E := ⟨_, rfl⟩
      rw [show pairsOf l.plans = E from hE] at hC
      rw [hE] at hpE
      obtain ⟨wo, hwo⟩ : ∃ W, W = wr := ⟨_, rfl⟩
      subst hwo
      go_wp2_with fail
      go_at_call 97
      (with_reducible refine hC.out.mono ?_)
      rintro e w2 ⟨A5, c5, rfl, o5, hb5⟩
      have R5 := Lib.hid (Row.own o5 (by decide))
      have hfar := Lib.hid (fun a ha => (own_far o5 a ha).1)
      have hEl : (E.length : Int) ≤ 9223372036854775807 := by have := R5.out.cap; have := R5.out.mx; omega
      have Z5 := Lib.hid (hZ.out.below hb5)
      have Y5 := Lib.hid (hY.out.below hb5)
      have B5 := Lib.hid (bt hb hb5)
      have hzo := Lib.hid z3
      clear x1 z1 z3 hb5 o5 hb hX hZ hY hC
      go_wp2_with fail
      go_step3
      go_wp2_with fail
      go_loopg [24] (mes (ini n)) (fun g s24 wr => ∃ f : Nat → Int, mes f ≤ g ∧ Gd E n f ∧ Bx wr b3 99 (A8 f) ∧ Bx wr b2 99 #[.int .i64 0, .int .i64 0, .int .i64 0, .int .i64 0, .int .i64 0, .int .i64 0, .int .i64 0, .int .i64 0] ∧ Row ec 2 wr A5 E.length c5 E ∧ Below w.heap.size w wr)
      case atStart => exact ⟨ini n, Nat.le_refl _, Gd.ini E n, Z5.out, Y5.out, R5.out, B5.out⟩
      case round =>
        clear Z5 Y5 R5 B5
        obtain ⟨f, hm, hG, hZ, hY, hR, hb⟩ := hrel
        obtain ⟨wq, hwq⟩ : ∃ W, W = wr := ⟨_, rfl⟩
        subst hwq
        replace hG := Lib.hid hG
        replace hm := Lib.hid hm
        have Z6 := Lib.hid hZ
        have Y6 := Lib.hid hY
        have R6 := Lib.hid hR
        have B6 := Lib.hid hb
        clear hZ hY hR hb
        go_wp2_with fail
        obtain ⟨g0, hg0⟩ : ∃ g, g = gk := ⟨_, rfl⟩
        subst hg0
        go_loopg [24] E.length (fun g s24 wi => ∃ j : Nat, j + g = E.length ∧ s24 = .int .i64 j ∧ (∀ e ∈ E.take j, f e.1.toNat = f e.2.toNat) ∧ Bx wi b3 99 (A8 f) ∧ Bx wi b2 99 #[.int .i64 0, .int .i64 0, .int .i64 0, .int .i64 0, .int .i64 0, .int .i64 0, .int .i64 0, .int .i64 0] ∧ Row ec 2 wi A5 E.length c5 E ∧ Below w.heap.size w wi)
        case atStart => exact ⟨0, by omega, rfl, fun e he => by (rw [List.take_zero] at he; cases he), Z6.out, Y6.out, R6.out, B6.out⟩
        case round =>
          clear Z6 Y6 R6 B6
          obtain ⟨j, hj, rfl, heq, hZ, hY, hR, hb⟩ := hrel
          by_cases hjn : j < E.length
          · have hjl : (j : Int) < (E.length : Int) := by omega
            obtain ⟨e, he⟩ : ∃ e, E[j]? = some e := ⟨_, List.getElem?_eq_getElem hjn⟩
            have hem := List.mem_of_getElem? he
            have hbd := hpE.out e hem
            obtain ⟨a, ha⟩ : ∃ a : Nat, e.1 = a := ⟨e.1.toNat, by omega⟩
            obtain ⟨b, hb9⟩ : ∃ b : Nat, e.2 = b := ⟨e.2.toNat, by omega⟩
            obtain ⟨bS, oS, hAS, hbS, q0, q1⟩ := Row.eat hR he
            subst hAS
            rw [ha] at q0
            rw [hb9] at q1
            have hab : ((a : Int), (b : Int)) ∈ E := by rw [← ha, ← hb9]; exact hem
            have han : a < n := by omega
            have hbn : b < n := by omega
            have ha8 : (a : Int) < 8 := by omega
            have hb8 : (b : Int) < 8 := by omega
            have hnx := Lib.hid (show f a = f b → ∀ e ∈ E.take (j + 1), f e.1.toNat = f e.2.toNat from fun h e9 he9 => by
              rw [List.take_add_one, he] at he9
              rcases List.mem_append.1 he9 with h9 | h9
              · exact heq e9 h9
              · obtain rfl : e9 = e := by simpa using h9
                rw [ha, hb9]; simpa using h)
            obtain ⟨w8, hw8⟩ : ∃ W, W = wr.alloc (.cells #[.int .i64 a, .int .i64 b] 33) := ⟨_, rfl⟩
            have bb8 : Below wr.heap.size wr w8 := by rw [hw8]; exact (Below.refl _ _).alloc (Nat.le_refl _) _
            have b8 := Lib.hid (bt hb bb8)
            have X8 := Lib.hid (show Bx w8 wr.heap.size 33 #[.int .i64 a, .int .i64 b] by rw [hw8]; exact Bx.new _ _ _ rfl)
            have Z8z := Lib.hid hZ.lt
            have Z8 := Lib.hid (hZ.below bb8)
            have Y8 := Lib.hid (hY.below bb8)
            have R8 := Lib.hid (hR.below bb8)
            replace he := Lib.hid he
            replace heq := Lib.hid heq
            replace ha := Lib.hid ha
            replace hb9 := Lib.hid hb9
            clear hb bb8 hZ hY hR hbd
            go_upto_region 11 with fail
            rw [← hw8]
            clear hw8 q0 q1 hbS
            have o8_0 := X8.out.c (i := 0) rfl
            have o8_1 := X8.out.c (i := 1) rfl
            have zz8 := X8.out.lt
            have ca := Z8.out.c (A8_get f (show a < 8 by omega))
            have cb := Z8.out.c (A8_get f (show b < 8 by omega))
            have z3 := Z8.out.lt
            obtain ⟨u, hu⟩ : ∃ u, f a = u := ⟨_, rfl⟩
            obtain ⟨v, hv⟩ : ∃ v, f b = v := ⟨_, rfl⟩
            rw [hu] at ca hnx
            rw [hv] at cb hnx
            replace hu := Lib.hid hu
            replace hv := Lib.hid hv
            go_quiet (fail)
            obtain ⟨w9, hw9⟩ : ∃ W, W = w8.drewN nq := ⟨_, rfl⟩
            have bb9 : Below w8.heap.size w8 w9 := by rw [hw9]; exact ⟨rfl, rfl, rfl, Nat.le_refl _, fun _ _ => rfl⟩
            rw [← hw9]
            clear hw9 o8_0 o8_1 zz8 ca cb z3
            have b9 := Lib.hid (bt b8.out bb9)
            have X9 := Lib.hid (X8.out.below bb9)
            have Z9 := Lib.hid (Z8.out.below bb9)
            have Y9 := Lib.hid (Y8.out.below bb9)
            have R9 := Lib.hid (R8.out.below bb9)
            clear b8 X8 Z8 Y8 R8 bb9
            by_cases huv : u = v
            · have hq : (u != v) = false := by subst huv; simp
              have hs2 := Lib.hid (hnx.out huv)
              replace huv := Lib.hid huv
              go_wp2_with fail
              go_roundg (E.length - (j + 1))
              case measure => omega
              case rel => exact ⟨j + 1, by omega, by go_num, hs2.out, Z9.out, Y9.out, R9.out, b9.out⟩
            · have hq : (u != v) = true := by simpa using huv
              obtain ⟨M, hM⟩ : ∃ M, min u v = M := ⟨_, rfl⟩
              have hM2 : (if v < u then v else u) = M := by rw [← hM]; split <;> omega
              have hM3 : (if u < v then u else v) = M := by rw [← hM]; split <;> omega
              have hG2 := Lib.hid (show Gd E n (upd (upd f a M) b M) by rw [← hM, ← hu.out, ← hv.out]; exact hG.out.merge hab han hbn)
              have hms := Lib.hid (show mes (upd (upd f a M) b M) < g0 by have := hG.out.less han hbn h8 (by rw [hu.out, hv.out]; exact huv); rw [hu.out, hv.out, hM] at this; have := hm.out; omega)
              have o9_0 := X9.out.c (i := 0) rfl
              have o9_1 := X9.out.c (i := 1) rfl
              have zz9 := X9.out.lt
              have ca := Z9.out.c (A8_get f (show a < 8 by omega))
              have cb := Z9.out.c (A8_get f (show b < 8 by omega))
              have fa := Z9.out.f a
              have fb := Z9.out.f b
              have z3 := Z9.out.lt
              have hne1 : ¬ a = b := fun e => huv (by rw [← hu.out, ← hv.out, e])
              have hne2 : ¬ b = a := fun e => hne1 e.symm
              have hnb1 : ¬ wr.heap.size = b3 := fun e => by (have := Z8z.out; omega)
              have hnb2 : ¬ b3 = wr.heap.size := fun e => hnb1 e.symm
              replace huv := Lib.hid huv
              go_upto_region 13 with fail
              have hfb := Lib.hid (show ∀ q, (some (⟨bS, oS, none⟩ : Addr)) = some q → q.block ≠ b3 from fun q hq e => by
                have h1 := hfar.out q hq
                have h2 := hzo.out
                omega)
              go_region
              all_goals
                go_wp2_with fail
                go_roundg (mes (upd (upd f a M) b M))
                case measure => exact hms.out
                case rel =>
                  have hdr : ∀ W : World, Below W.heap.size W W.drew := fun W => (Below.refl _ _).drew
                  have zA := (Z9.out.set a (.int .i64 M)).set b (.int .i64 M)
                  rw [A8_set _ (by omega), A8_set _ (by omega)] at zA
                  exact ⟨_, Nat.le_refl _, hG2.out, zA.below (hdr _), ((Y9.out.other hd2.out.2.2.1 _ _).other hd2.out.2.2.1 _ _).below (hdr _), ((R9.out.set_at hfb.out a _).set_at hfb.out b _).below (hdr _), ((b9.out.setCell hd2.out.2.1 _).setCell hd2.out.2.1 _).drew⟩
          · obtain rfl : j = E.length := by omega
            rw [List.take_length] at heq
            have hfin := Lib.hid (show A8 f = A8 (labF l) from Gd.fin HF.out (by rw [hE, hn9]; exact hG.out) (by rw [hE]; exact heq))
            have c0 := hZ.c (i := 0) (v := .int .i64 (f 0)) rfl
            have c1 := hZ.c (i := 1) (v := .int .i64 (f 1)) rfl
            have c2 := hZ.c (i := 2) (v := .int .i64 (f 2)) rfl
            have c3 := hZ.c (i := 3) (v := .int .i64 (f 3)) rfl
            have c4 := hZ.c (i := 4) (v := .int .i64 (f 4)) rfl
            have cc5 := hZ.c (i := 5) (v := .int .i64 (f 5)) rfl
            have c6 := hZ.c (i := 6) (v := .int .i64 (f 6)) rfl
            have c7 := hZ.c (i := 7) (v := .int .i64 (f 7)) rfl
            have y0 := hY.c (i := 0) rfl
            have y1 := hY.c (i := 1) rfl
            have y2 := hY.c (i := 2) rfl
            have y3 := hY.c (i := 3) rfl
            have y4 := hY.c (i := 4) rfl
            have y5 := hY.c (i := 5) rfl
            have y6 := hY.c (i := 6) rfl
            have y7 := hY.c (i := 7) rfl
            have gg0 := hY.f 0
            have g1 := hY.f 1
            have g2 := hY.f 2
            have g3 := hY.f 3
            have g4 := hY.f 4
            have g5 := hY.f 5
            have g6 := hY.f 6
            have g7 := hY.f 7
            have z2 := hY.lt
            have z3 := hZ.lt
            replace heq := Lib.hid heq
            replace hb := Lib.hid hb
            replace hZ := Lib.hid hZ
            replace hY := Lib.hid hY
            replace hR := Lib.hid hR
            go_wp2_with fail
            obtain ⟨wz, hwz⟩ : ∃ W, W = ((((((((wr.setCell ⟨b2, 0, none⟩ (.int .i64 (f 0))).setCell ⟨b2, 1, none⟩ (.int .i64 (f 1))).setCell ⟨b2, 2, none⟩ (.int .i64 (f 2))).setCell ⟨b2, 3, none⟩ (.int .i64 (f 3))).setCell ⟨b2, 4, none⟩ (.int .i64 (f 4))).setCell ⟨b2, 5, none⟩ (.int .i64 (f 5))).setCell ⟨b2, 6, none⟩ (.int .i64 (f 6))).setCell ⟨b2, 7, none⟩ (.int .i64 (f 7))) := ⟨_, rfl⟩
            have Bz := Lib.hid (show Below w.heap.size w wz by rw [hwz]; exact stay8 hb.out hd2.out.1 (.int .i64 (f 0)) (.int .i64 (f 1)) (.int .i64 (f 2)) (.int .i64 (f 3)) (.int .i64 (f 4)) (.int .i64 (f 5)) (.int .i64 (f 6)) (.int .i64 (f 7)))
            have Yz := (show Bx wz b2 99 (A8 f) by rw [hwz]; exact put8 hY.out (.int .i64 (f 0)) (.int .i64 (f 1)) (.int .i64 (f 2)) (.int .i64 (f 3)) (.int .i64 (f 4)) (.int .i64 (f 5)) (.int .i64 (f 6)) (.int .i64 (f 7)))
            rw [← hwz, Exit.noGoto_ret]
            clear hwz c0 c1 c2 c3 c4 cc5 c6 c7 y0 y1 y2 y3 y4 y5 y6 y7 gg0 g1 g2 g3 g4 g5 g6 g7 z2 z3
            have k0 := Yz.c (i := 0) (v := .int .i64 (f 0)) rfl
            have k1 := Yz.c (i := 1) (v := .int .i64 (f 1)) rfl
            have k2 := Yz.c (i := 2) (v := .int .i64 (f 2)) rfl
            have k3 := Yz.c (i := 3) (v := .int .i64 (f 3)) rfl
            have k4 := Yz.c (i := 4) (v := .int .i64 (f 4)) rfl
            have k5 := Yz.c (i := 5) (v := .int .i64 (f 5)) rfl
            have k6 := Yz.c (i := 6) (v := .int .i64 (f 6)) rfl
            have k7 := Yz.c (i := 7) (v := .int .i64 (f 7)) rfl
            replace Yz := Lib.hid Yz
            refine bodyPost_ret (v := .agg (A8 f)) (by simp [results, Try.results63, go_sem, k0, k1, k2, k3, k4, k5, k6, k7, A8]) rfl ⟨by rw [hfin.out], Bz.out⟩
end Go.Proofs.Ytgcmklliafcffaa.LanP
