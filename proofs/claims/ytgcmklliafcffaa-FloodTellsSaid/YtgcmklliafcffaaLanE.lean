/-
  Contracts of lan's hostsOn, portsOn, segsOf, joined.
-/
import Derived.Test.YtgcmklliafcffaaLanD
namespace Go.Proofs.Ytgcmklliafcffaa.LanP
open Go.RowKit Go.Sort Go.Proofs.Ytgcmklliafcffaa.SliceP Go.Proofs.Ytgcmklliafcffaa.BoxP
open Go.Proofs.Ytgcmklliafcffaa.IntP (RowI SlI OwnI)
open Go.Proofs.Ytgcmklliafcffaa.BoolP (RowB SlB OwnB)
open Go.Proofs.Ytgcmklliafcffaa.MacP (classI class_yes class_no ref_right_no ref_right_yes ref_class)
open Go.Proofs.Ytgcmklliafcffaa.LruP (hasI placeI has_more has_hit place_hit place_none place_geq has_true has_false)
set_option linter.unusedVariables false
set_option maxRecDepth 100000
abbrev ec (x : Int × Int) : List Value := [.int .i64 x.1, .int .i64 x.2]
abbrev ic (x : Int) : List Value := [.int .i64 x]
abbrev bc (x : Bool) : List Value := [.bool x]
theorem wholeE (l : List (Int × Int)) : Whole 2 (l.map ec) := wholeH l
theorem wholeI (l : List Int) : Whole 1 (l.map ic) := IntP.whole l
theorem wholeB (l : List Bool) : Whole 1 (l.map bc) := BoolP.whole l
theorem own_form {α : Type} {g : α → List Value} {w : World} {B : Nat} {e : TypeId} {sz : Nat} {v : Value} {l : List α} (h : Own w B e sz v (l.map g)) : ∃ A c, v = .slice A l.length c := by
  obtain ⟨A, c, rfl, _⟩ := h.form
  exact ⟨A, c, by rw [List.length_map]⟩
theorem own_snoc {α : Type} {g : α → List Value} {w : World} {B : Nat} {e : TypeId} {sz : Nat} {v : Value} {l m : List α} (h : Own w B e sz v (l.map g ++ m.map g)) : Own w B e sz v ((l ++ m).map g) := by rw [List.map_append]; exact h
theorem own_lit0 (w : World) (e : TypeId) (sz : Nat) : Own (w.alloc (.cells #[] e)) w.heap.size e sz (.slice (some ⟨w.heap.size, 0, none⟩) 0 0) [] := ⟨World.ownsRow_made w #[] 0 (Nat.le_refl _) (by unfold maxLen; omega) (by simp), Whole.nil⟩
/-- A row, new, is handed back. -/
def Ret {α : Type} (g : α → List Value) (e : TypeId) (sz : Nat) (w : World) (l : List α) (en : Ending) (w' : World) : Prop :=
  ∃ A c, en = .returned (.slice A l.length c) ∧ Own w' w.heap.size e sz (.slice A l.length c) (l.map g) ∧ Below w.heap.size w w'
theorem Row.eat {w : World} {A : Option Addr} {n c : Nat} {l : List (Int × Int)} (h : Row ec 2 w A n c l) {k : Nat} {x : Int × Int} (hk : l[k]? = some x) : ∃ b o, A = some ⟨b, o, none⟩ ∧ b < w.heap.size ∧
    w.cell? ⟨b, o + k * 2, none⟩ = some (.int .i64 x.1) ∧ w.cell? ⟨b, o + k * 2 + 1, none⟩ = some (.int .i64 x.2) := by
  obtain ⟨b, o, rfl, hb, hx⟩ := Sl.at_ h.sl (k := k) (cs := ec x) (by rw [List.getElem?_map, hk]; rfl)
  exact ⟨b, o, rfl, hb, hx 0 _ rfl, hx 1 _ rfl⟩
theorem Row.iat {w : World} {A : Option Addr} {n c : Nat} {l : List Int} (h : Row ic 1 w A n c l) {k : Nat} {x : Int} (hk : l[k]? = some x) : ∃ b o, A = some ⟨b, o, none⟩ ∧ b < w.heap.size ∧
    w.cell? ⟨b, o + k, none⟩ = some (.int .i64 x) := by
  obtain ⟨b, o, rfl, hb, hx⟩ := Sl.at_ h.sl (k := k) (cs := ic x) (by rw [List.getElem?_map, hk]; rfl)
  refine ⟨b, o, rfl, hb, ?_⟩
  have := hx 0 _ rfl
  rwa [Nat.mul_one, Nat.add_zero] at this
theorem Row.bat {w : World} {A : Option Addr} {n c : Nat} {l : List Bool} (h : Row bc 1 w A n c l) {k : Nat} {x : Bool} (hk : l[k]? = some x) : ∃ b o, A = some ⟨b, o, none⟩ ∧ b < w.heap.size ∧
    w.cell? ⟨b, o + k, none⟩ = some (.bool x) := by
  obtain ⟨b, o, rfl, hb, hx⟩ := Sl.at_ h.sl (k := k) (cs := bc x) (by rw [List.getElem?_map, hk]; rfl)
  refine ⟨b, o, rfl, hb, ?_⟩
  have := hx 0 _ rfl
  rwa [Nat.mul_one, Nat.add_zero] at this
theorem Row.rowI {w : World} {A : Option Addr} {n c : Nat} {l : List Int} (h : Row ic 1 w A n c l) : RowI w A n c l := ⟨h.len, h.sl, h.cap, h.nil⟩
theorem Row.grown {α : Type} {g : α → List Value} {sz : Nat} {w w' : World} {A : Option Addr} {n c : Nat} {l : List α} {row : Option Nat} (h : Row g sz w A n c l) (hg : w.grownBy w' row) (hne : ∀ a, A = some a → a.block < w.heap.size → some a.block ≠ row) : Row g sz w' A n c l :=
  ⟨h.len, fun hn => by
    obtain ⟨b, o, hA, hlt, hx⟩ := h.sl hn
    have hne' := hne _ hA hlt
    exact ⟨b, o, hA, Nat.lt_of_lt_of_le hlt hg.size, fun k cs hk j v hj => by rw [← hx k cs hk j v hj]; unfold World.cell?; rw [hg.block b hlt hne']⟩, h.cap, h.nil, h.mx⟩
theorem own_far {w : World} {B : Nat} {e : TypeId} {sz : Nat} {A : Option Addr} {n c : Nat} {xs : List (List Value)} (h : Own w B e sz (.slice A n c) xs) : ∀ a, A = some a → B ≤ a.block ∧ a.block < w.heap.size := fun a ha => by
  obtain ⟨A', c', hv, _, _, hA⟩ := h.form
  injection hv with e1 e2 e3
  subst e1
  rcases hA with ⟨h1, _⟩ | ⟨g, h1, h2, h3⟩
  · rw [h1] at ha; cases ha
  · rw [h1] at ha; obtain rfl := Option.some.inj ha; exact ⟨h2, h3⟩
theorem fm_succ {α β : Type} (f : α → List β) {l : List α} {k : Nat} {x : α} (hx : l[k]? = some x) : (l.take (k + 1)).flatMap f = (l.take k).flatMap f ++ f x := by rw [List.take_add_one, hx, List.flatMap_append]; simp
theorem fm_len {α β : Type} (f : α → List β) (m : Nat) (l : List α) (h : ∀ x ∈ l, (f x).length ≤ m) : (l.flatMap f).length ≤ l.length * m := by
  induction l with
  | nil => simp
  | cons a r ih =>
    have h1 := h a (by simp)
    have h2 := ih (fun x hx => h x (List.mem_cons_of_mem _ hx))
    rw [List.flatMap_cons, List.length_append, List.length_cons, Nat.add_mul, Nat.one_mul]
    omega
def hostsOf (l : List Hs) (s : Int) : List Hs := l.filter fun x => x.2 == s
theorem filter_succ {α : Type} (f : α → Bool) {l : List α} {k : Nat} {x : α} (hx : l[k]? = some x) : (l.take (k + 1)).filter f = (l.take k).filter f ++ if f x = true then [x] else [] := by
  rw [List.take_add_one, hx, List.filter_append]; congr 1; simp [List.filter_cons]
set_option maxHeartbeats 8000000 in
theorem o_hostson {A : Option Addr} {c : Nat} {l : List Hs} {w : World} (hr : Row hc 2 w A l.length c l) (hl : l.length ≤ 1000) (s : Int) : Calls Try.prog 49 #[.slice A l.length c, .int .i64 s] w (Ret hc 82 2 w (hostsOf l s)) := by
  have H := Lib.hid hr
  clear hr
  go_enter Try.func49, Try.ntmps49
  go_wp2_with fail
  go_loopw [5, 10] (fun v i wr => ∃ (k : Nat) (L : List Hs), k ≤ l.length ∧ i = .int .i64 k ∧ L = hostsOf (l.take k) s ∧ Own wr w.heap.size 82 2 v (L.map hc) ∧ Below w.heap.size w wr) (fun _ i _ => l.length - (intOf i).toNat)
  case atStart => exact ⟨0, [], by omega, rfl, rfl, Own.nil _ _ _ _, Below.refl _ _⟩
  case round =>
    obtain ⟨k, L, hk, rfl, hL, hown, hb⟩ := hrel
    obtain ⟨A3, c3, hv3⟩ := own_form hown
    subst hv3
    have hlenL := Lib.hid (show L.length ≤ k by rw [hL]; have := List.length_filter_le (fun x : Hs => x.2 == s) (l.take k); rw [List.length_take] at this; unfold hostsOf; omega)
    by_cases hkn : k < l.length
    · have hkl : (k : Int) < (l.length : Int) := by omega
      obtain ⟨x, hx⟩ : ∃ x, l[k]? = some x := ⟨_, List.getElem?_eq_getElem hkn⟩
      obtain ⟨bS8, oS8, hAS8, hbS8, q8_0, q8_1⟩ := Row.hat (H.out.below hb) hx
      subst hAS8
      obtain ⟨w8, hw8⟩ : ∃ W, W = wr.alloc (.cells #[.int .i64 x.1, .int .i64 x.2] 82) := ⟨_, rfl⟩
      have bb8 : Below wr.heap.size wr w8 := by rw [hw8]; exact (Below.refl _ _).alloc (Nat.le_refl _) _
      have b8 := Lib.hid (bt hb bb8)
      have X8 := Lib.hid (show Bx w8 wr.heap.size 82 #[.int .i64 x.1, .int .i64 x.2] by rw [hw8]; exact Bx.new _ _ _ rfl)
      have hs := filter_succ (fun x : Hs => x.2 == s) hx
      have own8 := Lib.hid (hown.below bb8)
      replace hL := Lib.hid hL
      clear hown
      replace hx := Lib.hid hx
      clear hb bb8
      go_upto_region 5 with fail
      rw [← hw8]
      clear hw8 q8_0 q8_1 hbS8
      have o8_0 := X8.out.c (i := 0) rfl
      have o8_1 := X8.out.c (i := 1) rfl
      have zz8 := X8.out.lt
      rw [show (l.take k).filter (fun x : Hs => x.2 == s) = L from hL.out.symm] at hs
      cases hq : (x.2 == s)
      · rw [hq, if_neg (by simp), List.append_nil] at hs
        replace hs := Lib.hid hs
        go_wp2_with fail
        go_roundw
        case rel => exact ⟨k + 1, L, by omega, by go_num, hs.out.symm, own8.out, b8.out⟩
        case measure => simp [intOf]; omega
      · rw [hq, if_pos rfl] at hs
        replace hs := Lib.hid hs
        obtain ⟨w9, hw9⟩ : ∃ W, W = w8.alloc (.cells #[.int .i64 x.1, .int .i64 x.2] 82) := ⟨_, rfl⟩
        have b9 : Below w8.heap.size w8 w9 := by rw [hw9]; exact (Below.refl _ _).alloc (Nat.le_refl _) _
        have hsl := Lib.hid (show Sl w9 2 (some ⟨w8.heap.size, 0, none⟩) ([x].map hc) from bx_sl (T := 82) (vals := #[.int .i64 x.1, .int .i64 x.2]) (by rw [hw9]; exact Bx.new _ _ _ rfl) rfl (by intro c hc; simp at hc; subst hc; rfl))
        have own9 := Lib.hid (own8.out.below b9)
        have hb9 := Lib.hid (bt b8.out b9)
        have hn1 : Hid ((L.map hc).length + ([x].map hc).length ≤ 1000000) := Lib.hid (by rw [List.length_map]; have := hlenL.out; simp; omega)
        have hvl : Hid ((L.map hc).length = L.length) := Lib.hid (by rw [List.length_map])
        have hB2 : Hid (w.heap.size ≤ w9.heap.size) := Lib.hid hb9.out.size
        clear b9
        go_wp2_with (at_builtin; rw [← hw9]; (refine wpList_append_sl rfl (.tmp 18) (.tmp 20) 23 rfl elH (by rfl) own9.out (by rfl) (by rfl) hsl.out (wholeH _) (fun h => by cases h) hn1.out hB2.out ?_); intro v' w4 own1 grow1 _)
        have b4 : Below w.heap.size w w4 := hb9.out.grown grow1 hb9.out.size (fun j hj => (own9.out.lt j hj).1)
        go_roundw
        case rel => exact ⟨k + 1, L ++ [x], by omega, by go_num, hs.out.symm, own_snoc own1, b4⟩
        case measure => simp [intOf]; omega
    · obtain rfl : k = l.length := by omega
      rw [List.take_length] at hL
      subst hL
      replace hown := Lib.hid hown
      replace hb := Lib.hid hb
      go_wp2_with fail
      go_ret
      exact ⟨A3, c3, rfl, hown.out, hb.out⟩
theorem ups_succ (p : P) {k : Nat} {x : Lk} (hx : p.ports[k]? = some x) : ((p.ports.take (k + 1)).filter Lk.up).map Lk.seg = ((p.ports.take k).filter Lk.up).map Lk.seg ++ if x.up = true then [x.seg] else [] := by
  rw [filter_succ Lk.up hx, List.map_append]; congr 1; split <;> rfl
set_option maxHeartbeats 8000000 in
theorem o_segsof {A : Option Addr} {c : Nat} {p : P} {w : World} (hr : Row kc 3 w A p.ports.length c p.ports) (hl : p.ports.length ≤ 1000) : Calls Try.prog 124 #[.agg #[.int .i64 p.id, .slice A p.ports.length c]] w (Ret ic 3 1 w (ups p)) := by
  obtain ⟨w0, hw0⟩ : ∃ W, W = w.alloc (.cells #[.int .i64 p.id, .slice A p.ports.length c] 60) := ⟨_, rfl⟩
  have B0 := Lib.hid (show Below w.heap.size w w0 by rw [hw0]; exact (Below.refl _ _).alloc (Nat.le_refl _) _)
  have X0 := Lib.hid (show Bx w0 w.heap.size 60 #[.int .i64 p.id, .slice A p.ports.length c] by rw [hw0]; exact Bx.new _ _ _ rfl)
  have H := Lib.hid hr
  clear hr
  go_enter Try.func124, Try.ntmps124
  go_upto_region 1 with fail
  rw [← hw0]
  clear hw0
  have x0 := X0.out.c (i := 0) rfl
  have x1 := X0.out.c (i := 1) rfl
  have zz := X0.out.lt
  go_wp2_with fail
  clear x0 x1 zz
  go_loopw [3, 9] (fun v i wr => ∃ (k : Nat) (L : List Int), k ≤ p.ports.length ∧ i = .int .i64 k ∧ L = ((p.ports.take k).filter Lk.up).map Lk.seg ∧ Own wr w.heap.size 3 1 v (L.map ic) ∧ Below w.heap.size w wr) (fun _ i _ => p.ports.length - (intOf i).toNat)
  case atStart => exact ⟨0, [], by omega, rfl, rfl, Own.nil _ _ _ _, B0.out⟩
  case round =>
    clear B0
    obtain ⟨k, L, hk, rfl, hL, hown, hb⟩ := hrel
    obtain ⟨A3, c3, hv3⟩ := own_form hown
    subst hv3
    have hlenL := Lib.hid (show L.length ≤ k by rw [hL]; have := List.length_filter_le Lk.up (p.ports.take k); rw [List.length_take] at this; rw [List.length_map]; omega)
    by_cases hkn : k < p.ports.length
    · have hkl : (k : Int) < (p.ports.length : Int) := by omega
      obtain ⟨x, hx⟩ : ∃ x, p.ports[k]? = some x := ⟨_, List.getElem?_eq_getElem hkn⟩
      obtain ⟨bS8, oS8, hAS8, hbS8, q8_0, q8_1, q8_2⟩ := Row.kat (H.out.below hb) hx
      subst hAS8
      obtain ⟨w8, hw8⟩ : ∃ W, W = wr.alloc (.cells #[.int .i64 x.seg, .int .i64 x.cost, .bool x.up] 57) := ⟨_, rfl⟩
      have bb8 : Below wr.heap.size wr w8 := by rw [hw8]; exact (Below.refl _ _).alloc (Nat.le_refl _) _
      have b8 := Lib.hid (bt hb bb8)
      have X8 := Lib.hid (show Bx w8 wr.heap.size 57 #[.int .i64 x.seg, .int .i64 x.cost, .bool x.up] by rw [hw8]; exact Bx.new _ _ _ rfl)
      have hs := ups_succ p hx
      rw [← hL] at hs
      have own8 := Lib.hid (hown.below bb8)
      replace hL := Lib.hid hL
      clear hown
      replace hx := Lib.hid hx
      clear hb bb8
      go_upto_region 5 with fail
      rw [← hw8]
      clear hw8 q8_0 q8_1 q8_2 hbS8
      have o8_0 := X8.out.c (i := 0) rfl
      have o8_1 := X8.out.c (i := 1) rfl
      have o8_2 := X8.out.c (i := 2) rfl
      have zz8 := X8.out.lt
      cases hq : x.up
      · rw [hq, if_neg (by simp), List.append_nil] at hs
        rw [hq] at o8_2
        replace hs := Lib.hid hs
        replace hq := Lib.hid hq
        go_wp2_with fail
        go_roundw
        case rel => exact ⟨k + 1, L, by omega, by go_num, hs.out.symm, own8.out, b8.out⟩
        case measure => simp [intOf]; omega
      · rw [hq, if_pos rfl] at hs
        rw [hq] at o8_2
        replace hs := Lib.hid hs
        replace hq := Lib.hid hq
        obtain ⟨w9, hw9⟩ : ∃ W, W = w8.alloc (.cells #[.int .i64 x.seg] 3) := ⟨_, rfl⟩
        have b9 : Below w8.heap.size w8 w9 := by rw [hw9]; exact (Below.refl _ _).alloc (Nat.le_refl _) _
        have hsl := Lib.hid (show Sl w9 1 (some ⟨w8.heap.size, 0, none⟩) ([x.seg].map ic) from bx_sl (T := 3) (vals := #[.int .i64 x.seg]) (by rw [hw9]; exact Bx.new _ _ _ rfl) rfl (by intro c hc; simp at hc; subst hc; rfl))
        have own9 := Lib.hid (own8.out.below b9)
        have hb9 := Lib.hid (bt b8.out b9)
        have hn1 : Hid ((L.map ic).length + ([x.seg].map ic).length ≤ 1000000) := Lib.hid (by rw [List.length_map]; have := hlenL.out; simp; omega)
        have hvl : Hid ((L.map ic).length = L.length) := Lib.hid (by rw [List.length_map])
        have hB2 : Hid (w.heap.size ≤ w9.heap.size) := Lib.hid hb9.out.size
        clear b9
        go_wp2_with (at_builtin; rw [← hw9]; (refine wpList_append_sl rfl (.tmp 15) (.tmp 18) 43 rfl IntP.elI (by rfl) own9.out (by rfl) (by rfl) hsl.out (wholeI _) (fun h => by cases h) hn1.out hB2.out ?_); intro v' w4 own1 grow1 _)
        have b4 : Below w.heap.size w w4 := hb9.out.grown grow1 hb9.out.size (fun j hj => (own9.out.lt j hj).1)
        go_roundw
        case rel => exact ⟨k + 1, L ++ [x.seg], by omega, by go_num, hs.out.symm, own_snoc own1, b4⟩
        case measure => simp [intOf]; omega
    · obtain rfl : k = p.ports.length := by omega
      rw [List.take_length] at hL
      obtain rfl : L = ups p := hL
      replace hown := Lib.hid hown
      replace hb := Lib.hid hb
      go_wp2_with fail
      go_ret
      exact ⟨A3, c3, rfl, hown.out, hb.out⟩
theorem ups_len (p : P) : (ups p).length ≤ p.ports.length := by unfold ups; rw [List.length_map]; exact List.length_filter_le _ _
end Go.Proofs.Ytgcmklliafcffaa.LanP
