/-
  Who is told of segments, and what that may change (Tel); contracts of flood's segsOf, across.
-/
import Derived.Test.YtgcmklliafcffaaFloodA
import Derived.Test.YtgcmklliafcffaaOnNew
import Derived.Test.YtgcmklliafcffaaStayR
import Derived.BigRegion
namespace Go.Proofs.Ytgcmklliafcffaa.LanP
open Go.RowKit Go.Sort Go.Proofs.Ytgcmklliafcffaa.SliceP Go.Proofs.Ytgcmklliafcffaa.BoxP
open Go.Proofs.Ytgcmklliafcffaa.IntP (RowI SlI OwnI)
open Go.Proofs.Ytgcmklliafcffaa.BoolP (RowB SlB OwnB)
open Go.Proofs.Ytgcmklliafcffaa.MacP (arr_out)
set_option linter.unusedVariables false
set_option maxRecDepth 100000
abbrev fnV (g : Nat) (caps : Array Value) : Value := .func (.func g) #[] caps
def Enters (g : Nat) : Prop := ∀ args w, (callFunc g args).run Try.prog w = .ok (.enter g args) w
/-- A function value that is told of one after the other: what it holds by then lies in the blocks σ, and it changes those alone, and new ones. -/
structure Tel {α : Type} (args : α → Array Value) (g : Nat) (caps : Array Value) (ok : α → Prop) (ρ : Nat → Prop) (I : List α → (Nat → Prop) → World → Prop) : Prop where
  enters : Enters g
  lt : ∀ T σ W, I T σ W → ∀ b, σ b → b < W.heap.size
  stay : ∀ T σ W S W', I T σ W → Stay S W W' → (∀ b, S b → ¬ σ b ∧ ¬ ρ b) → I T σ W'
  call : ∀ T σ W x, ok x → T.length < 1000 → I T σ W → Calls Try.prog g (args x ++ caps) W fun e W' => e = .returned (.tuple #[]) ∧ ∃ σ', I (T ++ [x]) σ' W' ∧ (∀ b, σ' b → σ b ∨ W.heap.size ≤ b) ∧ Stay σ W W'
theorem Tel.below {α : Type} {args : α → Array Value} {g : Nat} {caps : Array Value} {ok : α → Prop} {ρ : Nat → Prop} {I : List α → (Nat → Prop) → World → Prop} (t : Tel args g caps ok ρ I) {T : List α} {σ : Nat → Prop} {W W' : World} (h : I T σ W) (hb : Below W.heap.size W W') : I T σ W' :=
  t.stay T σ W (fun _ => False) W' h (Stay.of hb) (fun _ h => h.elim)
theorem Row.in_ {α : Type} {g : α → List Value} {sz : Nat} {w : World} {A : Option Addr} {n c : Nat} {l : List α} (hr : Row g sz w A n c l) (hn : l ≠ []) : ∀ a, A = some a → a.block < w.heap.size := fun a ha => by
  obtain ⟨b, o, e, hb, _⟩ := hr.sl (by simpa using hn)
  rw [ha] at e
  obtain rfl := Option.some.inj e
  exact hb
theorem Stay.row {α : Type} {g : α → List Value} {sz : Nat} {S : Nat → Prop} {w w' : World} {A : Option Addr} {n c : Nat} {l : List α} (h : Stay S w w') (hr : Row g sz w A n c l) (hS : l ≠ [] → ∀ a, A = some a → ¬ S a.block) : Row g sz w' A n c l :=
  ⟨hr.len, fun hn => (h.sl hr.sl (hS (by rintro rfl; exact hn rfl))) hn, hr.cap, hr.nil, hr.mx⟩
theorem Stay.on {S S' : Nat → Prop} {w a b : World} (h : Stay S w a) (k : Stay S' a b) (hS : ∀ c, S' c → S c ∨ w.heap.size ≤ c) : Stay S w b :=
  ⟨k.os.trans h.os, k.tape.trans h.tape, k.output.trans h.output, Nat.le_trans h.size k.size, fun i hi hn => (k.block i (Nat.lt_of_lt_of_le hi h.size) (fun q => (hS i q).elim hn (fun e => by omega))).trans (h.block i hi hn)⟩
theorem Stay.weak {S S' : Nat → Prop} {w w' : World} (h : Stay S w w') (hS : ∀ b, b < w.heap.size → S b → S' b) : Stay S' w w' := ⟨h.os, h.tape, h.output, h.size, fun k hk hn => h.block k hk (fun q => hn (hS k hk q))⟩
/-- The segments across a bridge from one, as they come. -/
def acr (l : L) (s : Int) : List Int := (onS l s).flatMap fun q => ups (pl l q.1)
theorem mem_acr {l : L} {s t : Int} : t ∈ acr l s ↔ lnk l s t = true := by
  unfold acr
  rw [List.mem_flatMap, lnk_iff]
  constructor
  · rintro ⟨q, hq, ht⟩
    obtain ⟨h1, h2, h3, h4⟩ := mem_onS.1 hq
    exact ⟨pl l q.1, pl_mem h1, mem_ups.2 ⟨_, prt_mem h2, h3, h4⟩, ht⟩
  · rintro ⟨p, hp, hs, ht⟩
    obtain ⟨b, hb, rfl⟩ := List.mem_iff_getElem.1 hp
    have e : pl l b = l.plans[b] := by unfold pl; rw [List.getD_eq_getElem?_getD, List.getElem?_eq_getElem hb]; rfl
    rw [← e] at hs ht
    obtain ⟨x, hx, hu, hsx⟩ := mem_ups.1 hs
    obtain ⟨k, hk, rfl⟩ := mem_prt hx
    exact ⟨(b, k), mem_onS.2 ⟨hb, hk, hu, hsx⟩, ht⟩
def acrTo (l : L) (S : List (Nat × Nat)) (k : Nat) : List Int := (S.take k).flatMap fun q => ups (pl l q.1)
theorem acrTo_len {l : L} {S : List (Nat × Nat)} (k : Nat) (h : ∀ q ∈ S, (ups (pl l q.1)).length ≤ 10) : (acrTo l S k).length ≤ k * 10 := by
  unfold acrTo
  have := fm_len (fun q : Nat × Nat => ups (pl l q.1)) 10 (S.take k) (fun q hq => h q (List.mem_of_mem_take hq))
  have h2 : (S.take k).length ≤ k := by rw [List.length_take]; omega
  omega
theorem acrTo_succ {l : L} {S : List (Nat × Nat)} {k : Nat} {q : Nat × Nat} (h : S[k]? = some q) : acrTo l S (k + 1) = acrTo l S k ++ ups (pl l q.1) := by unfold acrTo; exact fm_succ _ h
set_option maxHeartbeats 8000000 in
theorem o_fsegs {A : Option Addr} {c : Nat} {p : P} {w : World} (hr : Row kc 3 w A p.ports.length c p.ports) (hl : p.ports.length ≤ 1000) : Calls Try.prog 58 #[.agg #[.int .i64 p.id, .slice A p.ports.length c]] w (Ret ic 3 1 w (ups p)) := by
  obtain ⟨w0, hw0⟩ : ∃ W, W = w.alloc (.cells #[.int .i64 p.id, .slice A p.ports.length c] 60) := ⟨_, rfl⟩
  have B0 := Lib.hid (show Below w.heap.size w w0 by rw [hw0]; exact (Below.refl _ _).alloc (Nat.le_refl _) _)
  have X0 := Lib.hid (show Bx w0 w.heap.size 60 #[.int .i64 p.id, .slice A p.ports.length c] by rw [hw0]; exact Bx.new _ _ _ rfl)
  have H := Lib.hid hr
  clear hr
  go_enter Try.func58, Try.ntmps58
  go_upto_region 1 with fail
  rw [← hw0]
  clear hw0
  have x0 := X0.out.c (i := 0) rfl
  have x1 := X0.out.c (i := 1) rfl
  have zz := X0.out.lt
  go_wp2_with fail
  clear x0 x1 zz
  go_loopw [3, 9] (fun v i wr => ∃ (k : Nat) (L : List Int), k ≤ p.ports.length ∧ i = .int .i64 k ∧ L = ((p.ports.take k).filter Lk.up).map Lk.seg ∧ Own wr w.heap.size 3 1 v (L.map ic) ∧ Below w.heap.size w wr) (fun _ i _ => p.ports.length - (intOf i).toNat)
  case atStart => exact ⟨0, [], by omega, rfl, rfl, Own.nil _ _ _ _, B0.out⟩
  case round =>
    clear B0
    obtain ⟨k, L, hk, rfl, hL, hown, hb⟩ := hrel
    obtain ⟨A3, c3, hv3⟩ := own_form hown
    subst hv3
    have hlenL := Lib.hid (show L.length ≤ k by rw [hL]; have := List.length_filter_le Lk.up (p.ports.take k); rw [List.length_take] at this; rw [List.length_map]; omega)
    by_cases hkn : k < p.ports.length
    · have hkl : (k : Int) < (p.ports.length : Int) := by omega
      obtain ⟨x, hx⟩ : ∃ x, p.ports[k]? = some x := ⟨_, List.getElem?_eq_getElem hkn⟩
      obtain ⟨bS8, oS8, hAS8, hbS8, q8_0, q8_1, q8_2⟩ := Row.kat (H.out.below hb) hx
      subst hAS8
      obtain ⟨w8, hw8⟩ : ∃ W, W = wr.alloc (.cells #[.int .i64 x.seg, .int .i64 x.cost, .bool x.up] 57) := ⟨_, rfl⟩
      have bb8 : Below wr.heap.size wr w8 := by rw [hw8]; exact (Below.refl _ _).alloc (Nat.le_refl _) _
      have b8 := Lib.hid (bt hb bb8)
      have X8 := Lib.hid (show Bx w8 wr.heap.size 57 #[.int .i64 x.seg, .int .i64 x.cost, .bool x.up] by rw [hw8]; exact Bx.new _ _ _ rfl)
      have hs := ups_succ p hx
      rw [← hL] at hs
      have own8 := Lib.hid (hown.below bb8)
      replace hL := Lib.hid hL
      clear hown
      replace hx := Lib.hid hx
      clear hb bb8
      go_upto_region 5 with fail
      rw [← hw8]
      clear hw8 q8_0 q8_1 q8_2 hbS8
      have o8_0 := X8.out.c (i := 0) rfl
      have o8_1 := X8.out.c (i := 1) rfl
      have o8_2 := X8.out.c (i := 2) rfl
      have zz8 := X8.out.lt
      cases hq : x.up
      · rw [hq, if_neg (by simp), List.append_nil] at hs
        rw [hq] at o8_2
        replace hs := Lib.hid hs
        replace hq := Lib.hid hq
        go_wp2_with fail
        go_roundw
        case rel => exact ⟨k + 1, L, by omega, by go_num, hs.out.symm, own8.out, b8.out⟩
        case measure => simp [intOf]; omega
      · rw [hq, if_pos rfl] at hs
        rw [hq] at o8_2
        replace hs := Lib.hid hs
        replace hq := Lib.hid hq
        obtain ⟨w9, hw9⟩ : ∃ W, W = w8.alloc (.cells #[.int .i64 x.seg] 3) := ⟨_, rfl⟩
        have b9 : Below w8.heap.size w8 w9 := by rw [hw9]; exact (Below.refl _ _).alloc (Nat.le_refl _) _
        have hsl := Lib.hid (show Sl w9 1 (some ⟨w8.heap.size, 0, none⟩) ([x.seg].map ic) from bx_sl (T := 3) (vals := #[.int .i64 x.seg]) (by rw [hw9]; exact Bx.new _ _ _ rfl) rfl (by intro c hc; simp at hc; subst hc; rfl))
        have own9 := Lib.hid (own8.out.below b9)
        have hb9 := Lib.hid (bt b8.out b9)
        have hn1 : Hid ((L.map ic).length + ([x.seg].map ic).length ≤ 1000000) := Lib.hid (by rw [List.length_map]; have := hlenL.out; simp; omega)
        have hvl : Hid ((L.map ic).length = L.length) := Lib.hid (by rw [List.length_map])
        have hB2 : Hid (w.heap.size ≤ w9.heap.size) := Lib.hid hb9.out.size
        clear b9
        go_wp2_with (at_builtin; rw [← hw9]; (refine wpList_append_sl rfl (.tmp 15) (.tmp 18) 43 rfl IntP.elI (by rfl) own9.out (by rfl) (by rfl) hsl.out (wholeI _) (fun h => by cases h) hn1.out hB2.out ?_); intro v' w4 own1 grow1 _)
        have b4 : Below w.heap.size w w4 := hb9.out.grown grow1 hb9.out.size (fun j hj => (own9.out.lt j hj).1)
        go_roundw
        case rel => exact ⟨k + 1, L ++ [x.seg], by omega, by go_num, hs.out.symm, own_snoc own1, b4⟩
        case measure => simp [intOf]; omega
    · obtain rfl : k = p.ports.length := by omega
      rw [List.take_length] at hL
      obtain rfl : L = ups p := hL
      replace hown := Lib.hid hown
      replace hb := Lib.hid hb
      go_wp2_with fail
      go_ret
      exact ⟨A3, c3, rfl, hown.out, hb.out⟩
set_option maxHeartbeats 16000000 in
theorem o_across {l : L} {A : Option Addr} {c : Nat} {B : Option Addr} {d : Nat} {w : World} {g : Nat} {caps : Array Value} {I : List Int → (Nat → Prop) → World → Prop} {s : Int} {σ ρ0 : Nat → Prop} (t : Tel (fun x => #[.int .i64 x]) g caps (fun x => lnk l s x = true) ρ0 I)
    (hr : ∀ W, Stay σ w W → LanR W l A c B d) (hs : Small l) (hw : whyI l s = 0) (hI : I [] σ w) :
    Calls Try.prog 86 #[lv l A c B d, .int .i64 s, fnV g caps] w fun e w' => e = .returned (.tuple #[]) ∧ ∃ σ', I (acr l s) σ' w' ∧ (∀ b, σ' b → σ b ∨ w.heap.size ≤ b) ∧ Stay σ w w' := by
  have eg := t.enters
  unfold Enters at eg
  have hR := Lib.hid hr
  obtain ⟨w0, hw0, X0, R0, B0⟩ := new3 w (hr w (Stay.refl _ _))
  have hσ := Lib.hid (t.lt _ _ _ hI)
  have hon := Lib.hid (o_on_new R0 hs hw)
  have I0 := Lib.hid (t.below hI B0)
  obtain ⟨S, hS⟩ : ∃ S, onS l s = S := ⟨_, rfl⟩
  have hSl : S.length ≤ 80 := by rw [← hS]; exact onS_len hs.plans hs.ports _
  have hSm := Lib.hid (fun q (hq : q ∈ S) => mem_onS.1 (by rw [hS]; exact hq : q ∈ onS l s))
  rw [ports_onS, hS, List.length_map] at hon
  have hupl := Lib.hid (fun q (hq : q ∈ S) => show (ups (pl l q.1)).length ≤ 10 from Nat.le_trans (ups_len _) (hs.ports _ (pl_mem (hSm.out q hq).1)))
  have hall := Lib.hid (fun x => mem_acr (l := l) (s := s) (t := x))
  have hacr : acr l s = acrTo l S S.length := by unfold acr acrTo; rw [hS, List.take_length]
  rw [hacr] at hall ⊢
  replace hacr := Lib.hid hacr
  replace hS := Lib.hid hS
  replace X0 := Lib.hid X0
  replace B0 := Lib.hid B0
  have hpn := Lib.hid hs.plans
  have hpm := Lib.hid hs.ports
  clear hr hs hw hI R0
  go_enter Try.func86, Try.ntmps86
  go_upto_region 1 with fail
  rw [← hw0]
  clear hw0
  have x0 := X0.out.c (i := 0) rfl
  have x1 := X0.out.c (i := 1) rfl
  have x2 := X0.out.c (i := 2) rfl
  have zz := X0.out.lt
  go_wp2_with fail
  go_at_call 20
  (with_reducible refine hon.out.mono ?_)
  rintro e w1 ⟨A5, c5, A6, c6, rfl, _, R6, hb1⟩
  have B1 := Lib.hid (bt B0.out hb1)
  have X1 := Lib.hid (X0.out.below hb1)
  have I1 := Lib.hid (t.below I0.out hb1)
  have R1 := Lib.hid R6.1
  have N1 := Lib.hid (show ∀ a, A6 = some a → w.heap.size ≤ a.block from fun a ha => Nat.le_trans B0.out.size (R6.2 a ha))
  have in1 := Lib.hid (fun hn a ha => Row.in_ R6.1 (l := S.map nz) (by simpa using hn) a ha)
  have hw1 := Lib.hid (show w.heap.size < w1.heap.size from X1.out.lt)
  have hf6 := Lib.hid R6.1.mx
  have hc6 := Lib.hid R6.1.cap
  clear R6 hb1 hon I0 X0 B0 x0 x1 x2 zz
  go_wp2_with fail
  go_loopw [10, 12, 22] (fun p u i wr => ∃ (k : Nat) (τ : Nat → Prop), k ≤ S.length ∧ i = .int .i64 k ∧ I (acrTo l S k) τ wr ∧ (∀ b, τ b → σ b ∨ w.heap.size ≤ b) ∧ (∀ b, τ b → σ b ∨ w1.heap.size ≤ b) ∧ Stay σ w wr ∧ w1.heap.size ≤ wr.heap.size ∧ Bx wr w.heap.size 25 (lc l A c B d) ∧ Row ec 2 wr A6 S.length c6 (S.map nz)) (fun _ _ i _ => S.length - (intOf i).toNat)
  case atStart => exact ⟨0, σ, by omega, rfl, I1.out, fun b h => .inl h, fun b h => .inl h, Stay.of B1.out, Nat.le_refl _, X1.out, R1.out⟩
  case round =>
    clear I1 X1 R1
    obtain ⟨k, τ, hk, rfl, hI, hτ, hτ1, hst, hsz, hX, hRw⟩ := hrel
    obtain ⟨wo, hwo⟩ : ∃ W, W = wr := ⟨_, rfl⟩
    subst hwo
    have hkn' := hRw.mx
    by_cases hkn : k < S.length
    · have hkl : (k : Int) < (S.length : Int) := by omega
      obtain ⟨q, hq⟩ : ∃ q, S[k]? = some q := ⟨_, List.getElem?_eq_getElem hkn⟩
      obtain ⟨bS, oS, hAS, hbS, r0, r1⟩ := Row.eat hRw (k := k) (x := nz q) (by rw [List.getElem?_map, hq]; rfl)
      unfold nz at r0 r1
      simp only at r0 r1
      have hq1 := hSm.out q (List.mem_of_getElem? hq)
      have hnx := Lib.hid (acrTo_succ (l := l) hq)
      have hmem := Lib.hid (fun x (hx : x ∈ ups (pl l q.1)) => (hall.out x).1 (by unfold acrTo; rw [List.take_length]; exact List.mem_flatMap.2 ⟨q, List.mem_of_getElem? hq, hx⟩))
      obtain ⟨w2, hw2⟩ : ∃ W, W = wo.alloc (.cells #[.int .i64 q.1, .int .i64 q.2] 33) := ⟨_, rfl⟩
      obtain ⟨gQ, hgQ⟩ : ∃ g, g = wo.heap.size := ⟨_, rfl⟩
      have bb2 : Below wo.heap.size wo w2 := by rw [hw2]; exact (Below.refl _ _).alloc (Nat.le_refl _) _
      have Q2 := Lib.hid (show Bx w2 gQ 33 #[.int .i64 q.1, .int .i64 q.2] by rw [hw2]; exact Bx.new _ _ _ hgQ.symm)
      have HL2 := Lib.hid (hR.out w2 (hst.trans (Stay.of bb2)))
      have I2 := Lib.hid (t.below hI bb2)
      have X2 := Lib.hid (hX.below bb2)
      have Rw2 := Lib.hid (hRw.below bb2)
      have st2 := Lib.hid (hst.trans (Stay.of bb2))
      have sz2 := Lib.hid (Nat.le_trans hsz bb2.size)
      have hτl := Lib.hid (t.lt _ _ _ hI)
      replace hτ := Lib.hid hτ
      replace hτ1 := Lib.hid hτ1
      have hos := Lib.hid (show wo.heap.size ≤ w2.heap.size from bb2.size)
      obtain ⟨p, hp⟩ : ∃ p, pl l q.1 = p := ⟨_, rfl⟩
      have hplan := plan_get hq1.1
      rw [hp] at hplan hnx hmem
      obtain ⟨bP, oP, A7, c7, hA7, hbP, p0, p1, hrow⟩ := RowP.at_ HL2.out.plans hplan
      have hpx := hpm.out p (List.mem_of_getElem? hplan)
      have hseg := Lib.hid (o_fsegs hrow (by omega))
      have hq1l : (q.1 : Int) < (l.plans.length : Int) := by have := hq1.1; omega
      have hq10 : (0 : Int) ≤ (q.1 : Int) := by omega
      have hpn8 := hpn.out
      have hq1n := hq1.1
      subst hAS
      subst hA7
      replace hq := Lib.hid hq
      replace hp := Lib.hid hp
      replace hplan := Lib.hid hplan
      clear hI hX hRw hst hsz bb2 hq1 hrow
      go_upto_region 5 with fail
      rw [← hw2, ← hgQ]
      clear hw2 r0 r1 hbS hgQ
      have x1 := X2.out.c (i := 1) rfl
      have zx := X2.out.lt
      have q0 := Q2.out.c (i := 0) rfl
      have zq := Q2.out.lt
      go_wp2_with fail
      go_at_call 58
      (with_reducible refine hseg.out.mono ?_)
      rintro e w3 ⟨A8, c8, rfl, own8, hb3⟩
      obtain ⟨U, hU⟩ : ∃ U, ups p = U := ⟨_, rfl⟩
      rw [hU] at own8 hnx hmem ⊢
      have hUl : U.length ≤ 10 := by rw [← hU]; have := ups_len p; omega
      replace hU := Lib.hid hU
      have I3 := Lib.hid (t.below I2.out hb3)
      have X3 := Lib.hid (X2.out.below hb3)
      have Rw3 := Lib.hid (Rw2.out.below hb3)
      have st3 := Lib.hid (st2.out.trans (Stay.of hb3))
      have sz3 := Lib.hid (Nat.le_trans sz2.out hb3.size)
      have U3 := Lib.hid (Row.own own8 (by decide))
      have far3 := Lib.hid (fun a ha => (own_far own8 a ha).1)
      have sz4 := Lib.hid (show w1.heap.size ≤ w3.heap.size from sz3.out)
      have hws := Lib.hid (show w.heap.size ≤ w3.heap.size from Nat.le_trans B1.out.size sz3.out)
      have in3 := Lib.hid (fun hn a ha => Row.in_ U3.out hn a ha)
      have hum := U3.out.mx
      have huc := U3.out.cap
      have hs3 := Lib.hid (show w2.heap.size ≤ w3.heap.size from hb3.size)
      clear I2 X2 Rw2 st2 sz2 own8 hb3 x1 zx q0 zq Q2 p0 p1 hbP hq1l hq10 hseg HL2
      go_wp2_with fail
      obtain ⟨wi0, hwi0⟩ : ∃ W, W = w3 := ⟨_, rfl⟩
      subst hwi0
      go_loopw [12, 34] (fun u i wi => ∃ (j : Nat) (ρ : Nat → Prop), j ≤ U.length ∧ i = .int .i64 j ∧ I (acrTo l S k ++ U.take j) ρ wi ∧ (∀ b, ρ b → τ b ∨ wi0.heap.size ≤ b) ∧ Stay σ w wi ∧ w1.heap.size ≤ wi.heap.size ∧ wi0.heap.size ≤ wi.heap.size ∧ Bx wi w.heap.size 25 (lc l (some ⟨bP, oP, none⟩) c B d) ∧ Row ec 2 wi (some ⟨bS, oS, none⟩) S.length c6 (S.map nz) ∧ Row ic 1 wi A8 U.length c8 U) (fun _ i _ => U.length - (intOf i).toNat)
      case atStart => exact ⟨0, τ, by omega, rfl, by rw [List.take_zero, List.append_nil]; exact I3.out, fun b h => .inl h, st3.out, sz3.out, Nat.le_refl _, X3.out, Rw3.out, U3.out⟩
      case round =>
        clear I3 X3 Rw3 U3 st3 sz3
        obtain ⟨j, ρ, hj, rfl, hI, hρ, hst, hsz, hsz0, hX, hRw, hUr⟩ := hrel
        by_cases hjn : j < U.length
        · have hjl : (j : Int) < (U.length : Int) := by omega
          obtain ⟨x, hx⟩ : ∃ x, U[j]? = some x := ⟨_, List.getElem?_eq_getElem hjn⟩
          obtain ⟨bU, oU, hAU, hbU, u0⟩ := Row.iat hUr hx
          have hcall := Lib.hid (t.call _ _ _ x (hmem.out x (List.mem_of_getElem? hx)) (by have := acrTo_len (l := l) (S := S) k hupl.out; rw [List.length_append, List.length_take]; omega) hI)
          subst hAU
          have hρl := t.lt _ _ _ hI
          have htk : U.take (j + 1) = U.take j ++ [x] := by rw [List.take_add_one, hx]; rfl
          have hσw : ∀ b, ρ b → σ b ∨ w.heap.size ≤ b := fun b hb => by
            rcases hρ b hb with h | h
            · exact hτ.out b h
            · have := hws.out; right; omega
          have hnX : ¬ ρ w.heap.size := fun hb => by
            rcases hρ _ hb with h | h
            · rcases hτ1.out _ h with h | h
              · have := hσ.out _ h; omega
              · have := hw1.out; omega
            · have := hws.out; have := hw1.out; have := sz4.out; omega
          have hnS : S.map nz ≠ [] → ∀ a, (some ⟨bS, oS, none⟩ : Option Addr) = some a → ¬ ρ a.block := fun hn a ha hb => by
            have h1 := N1.out a ha
            have h2 := in1.out (fun e => hn (by rw [e]; rfl)) a ha
            rcases hρ _ hb with h | h
            · rcases hτ1.out _ h with h | h
              · have := hσ.out _ h; omega
              · omega
            · have := sz4.out; omega
          have hnU : U ≠ [] → ∀ a, (some ⟨bU, oU, none⟩ : Option Addr) = some a → ¬ ρ a.block := fun hn a ha hb => by
            have h1 := far3.out a ha
            have h2 := in3.out hn a ha
            rcases hρ _ hb with h | h
            · have := hτl.out _ h; have := hos.out; omega
            · omega
          have K := Lib.hid (show ∀ (w9 : World) (ρ' : Nat → Prop), (∀ b, ρ' b → ρ b ∨ wr.heap.size ≤ b) → Stay ρ wr w9 → (∀ b, ρ' b → τ b ∨ wi0.heap.size ≤ b) ∧ Stay σ w w9 ∧ w1.heap.size ≤ w9.heap.size ∧ wi0.heap.size ≤ w9.heap.size ∧ Bx w9 w.heap.size 25 (lc l (some ⟨bP, oP, none⟩) c B d) ∧ Row ec 2 w9 (some ⟨bS, oS, none⟩) S.length c6 (S.map nz) ∧ Row ic 1 w9 (some ⟨bU, oU, none⟩) U.length c8 U from fun w9 ρ' h1 h2 =>
            ⟨fun b hb => (h1 b hb).elim (fun h => hρ b h) (fun h => .inr (by omega)), hst.on h2 hσw, Nat.le_trans hsz h2.size, Nat.le_trans hsz0 h2.size, h2.bx hX hnX, h2.row hRw hnS, h2.row hUr hnU⟩)
          have hmx := hUr.mx
          replace hx := Lib.hid hx
          replace htk := Lib.hid htk
          clear hI hρ hst hsz hsz0 hX hRw hUr hσw hnX hnS hnU hρl
          go_wp2_with fail
          go_at_fn g
          (with_reducible refine hcall.out.mono ?_)
          rintro e w9 ⟨rfl, ρ', hI', hρ', hst'⟩
          obtain ⟨k1, k2, k3, k4, k5, k6, k7⟩ := K.out w9 ρ' hρ' hst'
          rw [List.append_assoc, ← htk.out] at hI'
          replace k1 := Lib.hid k1
          replace k5 := Lib.hid k5
          replace k6 := Lib.hid k6
          replace k7 := Lib.hid k7
          replace hI' := Lib.hid hI'
          replace k2 := Lib.hid k2
          clear hρ' hst' K hcall u0 hbU
          go_wp2_with fail
          go_roundw
          case rel => exact ⟨j + 1, ρ', by omega, by go_num, hI'.out, k1.out, k2.out, k3, k4, k5.out, k6.out, k7.out⟩
          case measure => simp [intOf]; omega
        · obtain rfl : j = U.length := by omega
          rw [List.take_length, ← hnx.out] at hI
          have e1 : ∀ b, ρ b → σ b ∨ w.heap.size ≤ b := fun b hb => by
            rcases hρ b hb with h | h
            · exact hτ.out b h
            · have := hws.out; right; omega
          have e2 : ∀ b, ρ b → σ b ∨ w1.heap.size ≤ b := fun b hb => by
            rcases hρ b hb with h | h
            · exact hτ1.out b h
            · have := sz4.out; right; omega
          replace hI := Lib.hid hI
          replace e1 := Lib.hid e1
          replace e2 := Lib.hid e2
          replace hst := Lib.hid hst
          replace hX := Lib.hid hX
          replace hRw := Lib.hid hRw
          clear hUr hρ
          go_wp2_with fail
          go_roundw
          case rel => exact ⟨k + 1, ρ, by omega, by go_num, hI.out, e1.out, e2.out, hst.out, hsz, hX.out, hRw.out⟩
          case measure => simp [intOf]; omega
    · obtain rfl : k = S.length := by omega
      replace hI := Lib.hid hI
      replace hτ := Lib.hid hτ
      replace hst := Lib.hid hst
      clear hX hRw hτ1
      go_wp2_with fail
      exact bodyPost_end (v := .tuple #[]) (by simp [results, Try.results86, go_sem]) rfl ⟨rfl, τ, hI.out, hτ.out, hst.out⟩
end Go.Proofs.Ytgcmklliafcffaa.LanP
