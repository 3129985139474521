/-
  Contracts of slices.Contains at []int, of the closure by which flood's queue grows (walk$1), and of walk.
-/
import Derived.Test.YtgcmklliafcffaaFloodB
import Derived.Test.YtgcmklliafcffaaRegEnd
import Derived.BigRegion
namespace Go.Proofs.Ytgcmklliafcffaa.LanP
open Go.RowKit Go.Sort Go.Proofs.Ytgcmklliafcffaa.SliceP Go.Proofs.Ytgcmklliafcffaa.BoxP
open Go.Proofs.Ytgcmklliafcffaa.IntP (RowI SlI OwnI)
open Go.Proofs.Ytgcmklliafcffaa.BoolP (RowB SlB OwnB)
open Go.Proofs.Ytgcmklliafcffaa.MacP (arr_out Wrote wp_region_ends outM)
open Go.Proofs.Ytgcmklliafcffaa.LruP (hasI placeI has_more has_hit place_hit place_none place_geq has_true has_false beq_swap)
set_option linter.unusedVariables false
set_option maxRecDepth 100000
set_option maxHeartbeats 2000000 in
theorem o_index_i (A : Option Addr) (cap : Nat) (l : List Int) (x : Int) (w : World) (hl : l.length ≤ 1000000) (h : SlI w A l) :
    Calls Try.prog 111 #[.slice A l.length cap, .int .i64 x] w fun e w' => e = .returned (.int .i64 (placeI l x)) ∧ w = w' := by
  have H := Lib.hid h
  clear h
  go_enter Try.func111, Try.ntmps111
  go_wp2_with fail
  go_loop [8] (fun i => ∃ k : Nat, k ≤ l.length ∧ i = .int .i64 k ∧ hasI (l.take k) x = false) (fun i => l.length - (intOf i).toNat)
  case atStart => exact ⟨0, by omega, rfl, rfl⟩
  case round =>
    obtain ⟨k, hk, rfl, hno⟩ := hrel
    replace hno := Lib.hid hno
    by_cases hlk : k < l.length
    · obtain ⟨y, hy⟩ : ∃ y, l[k]? = some y := ⟨_, List.getElem?_eq_getElem hlk⟩
      obtain ⟨b, o, rfl, hbw, x0⟩ := SlI.at_ H.out hy
      replace hy := Lib.hid hy
      cases hh : y == x
      all_goals
        have hh' := (beq_swap x y).trans hh
        go_wp2_with fail
      · go_round
        case rel => exact ⟨k + 1, by omega, by go_num, has_more hno.out hy.out hh⟩
        case measure => simp [intOf]; omega
      · go_ret
        exact ⟨by rw [place_hit hno.out hy.out hh]; rfl, rfl⟩
    · obtain rfl : k = l.length := by omega
      go_wp2_with fail
      go_ret
      exact ⟨by rw [place_none hno.out]; rfl, rfl⟩
set_option maxHeartbeats 1000000 in
theorem o_contains_i (A : Option Addr) (cap : Nat) (l : List Int) (x : Int) (w : World) (hl : l.length ≤ 1000000) (h : SlI w A l) :
    Calls Try.prog 88 #[.slice A l.length cap, .int .i64 x] w fun e w' => e = .returned (.bool (hasI l x)) ∧ w = w' := by
  have H := Lib.hid h
  clear h
  go_enter Try.func88, Try.ntmps88
  go_wp2_with fail
  go_at_call 111
  (with_reducible refine (o_index_i A cap l x _ hl H.out).mono ?_)
  rintro e w1 ⟨rfl, rfl⟩
  go_wp2_with fail
  go_ret
  exact ⟨by rw [← place_geq]; rfl, rfl⟩
abbrev dN (D : Int → Int) : Nat → Int := fun k => D (k : Int)
theorem dN_upd (D : Int → Int) (k : Nat) (v : Int) : upd (dN D) k v = dN (updD D (k : Int) v) := by
  funext i
  show (if i = k then v else D (i : Int)) = if ((i : Nat) : Int) = (k : Int) then v else D (i : Int)
  by_cases h : i = k
  · rw [if_pos h, if_pos (by omega)]
  · rw [if_neg h, if_neg (by omega)]
/-- What the queue's closure holds: the queue, the steps, the segment that is looked at. -/
structure QS (l : L) (f : Int) (a n0 bq bs b9 : Nat) (s : Int) (Q0 : List Int) (D0 : Int → Int) (T : List Int) (σ : Nat → Prop) (Q : List Int) (D : Int → Int) (v : Value) (W : World) : Prop where
  bfs : Bfs l f a Q D
  sub : ∀ x ∈ T, x ∈ Q
  at_ : Q[a]? = some s
  q : Bx W bq 43 #[v]
  own : Own W n0 3 1 v (Q.map ic)
  d : Bx W bs 99 (A8 (dN D))
  s : Bx W b9 3 #[.int .i64 s]
  σis : ∀ b, σ b ↔ b = bq ∨ b = bs ∨ b = b9 ∨ v.ownBlock = some b
  nq : v.ownBlock ≠ some bq
  ns : v.ownBlock ≠ some bs
  n9 : v.ownBlock ≠ some b9
  pre : ∃ R, Q = Q0 ++ R
  keep : ∀ x ∈ Q0, D x = D0 x
def QI (l : L) (f : Int) (a n0 bq bs b9 : Nat) (s : Int) (Q0 : List Int) (D0 : Int → Int) (T : List Int) (σ : Nat → Prop) (W : World) : Prop := ∃ Q D v, QS l f a n0 bq bs b9 s Q0 D0 T σ Q D v W
theorem QS.lt {l : L} {f : Int} {a n0 bq bs b9 : Nat} {s : Int} {Q0 : List Int} {D0 : Int → Int} {T : List Int} {σ : Nat → Prop} {Q : List Int} {D : Int → Int} {v : Value} {W : World} (h : QS l f a n0 bq bs b9 s Q0 D0 T σ Q D v W) : ∀ b, σ b → b < W.heap.size := fun b hb => by
  rcases (h.σis b).1 hb with rfl | rfl | rfl | e
  · exact h.q.lt
  · exact h.d.lt
  · exact h.s.lt
  · exact (h.own.lt b e).2
theorem QS.stay {l : L} {f : Int} {a n0 bq bs b9 : Nat} {s : Int} {Q0 : List Int} {D0 : Int → Int} {T : List Int} {σ : Nat → Prop} {Q : List Int} {D : Int → Int} {v : Value} {W W' : World} {S : Nat → Prop} (h : QS l f a n0 bq bs b9 s Q0 D0 T σ Q D v W) (k : Stay S W W') (hS : ∀ b, S b → ¬ σ b) : QS l f a n0 bq bs b9 s Q0 D0 T σ Q D v W' :=
  ⟨h.bfs, h.sub, h.at_, k.bx h.q (fun e => hS _ e ((h.σis _).2 (.inl rfl))), own_stay h.own k (fun b e q => hS b q ((h.σis b).2 (.inr (.inr (.inr e))))), k.bx h.d (fun e => hS _ e ((h.σis _).2 (.inr (.inl rfl)))), k.bx h.s (fun e => hS _ e ((h.σis _).2 (.inr (.inr (.inl rfl))))), h.σis, h.nq, h.ns, h.n9, h.pre, h.keep⟩
theorem nat_of {x n : Int} (h0 : 0 ≤ x) (h1 : x < n) : ∃ k : Nat, x = (k : Int) := ⟨x.toNat, by omega⟩
theorem Stay.grown {S : Nat → Prop} {w w' : World} {row : Option Nat} (h : w.grownBy w' row) (hS : ∀ b, row = some b → S b) : Stay S w w' := ⟨h.os, h.tape, h.output, h.size, fun k hk hn => h.block k hk (fun e => hn (hS k e.symm))⟩
theorem Stay.set {S : Nat → Prop} {b : Nat} (hb : S b) (w : World) (o : Nat) (v : Value) : Stay S w (w.setCell ⟨b, o, none⟩ v) := Stay.grown (setCell_grown w b o v) (fun k e => by cases e; exact hb)
set_option maxHeartbeats 8000000 in
theorem q_call {l : L} (hf : l.fit) (h8 : l.n ≤ 8) {f : Int} {a n0 bq bs b9 : Nat} {s : Int} {Q0 : List Int} {D0 : Int → Int} {T : List Int} {σ : Nat → Prop} {W : World} {x : Int} (hl : lnk l s x = true) (h : QI l f a n0 bq bs b9 s Q0 D0 T σ W) (d1 : bq ≠ bs) (d2 : bq ≠ b9) (d3 : bs ≠ b9) :
    Calls Try.prog 87 #[.int .i64 x, .pointer (some ⟨bq, 0, none⟩), .pointer (some ⟨bs, 0, none⟩), .pointer (some ⟨b9, 0, none⟩)] W fun e W' => e = .returned (.tuple #[]) ∧ ∃ σ', QI l f a n0 bq bs b9 s Q0 D0 (T ++ [x]) σ' W' ∧ (∀ b, σ' b → σ b ∨ W.heap.size ≤ b) ∧ Stay σ W W' := by
  obtain ⟨k, rfl⟩ := nat_of (lnk_in hf hl).2.1 (lnk_in hf hl).2.2
  obtain ⟨m, rfl⟩ := nat_of (lnk_in hf hl).1.1 (lnk_in hf hl).1.2
  obtain ⟨Q, D, v, h⟩ := h
  obtain ⟨A3, c3, hv3⟩ := own_form h.own
  subst hv3
  obtain ⟨g, hA3, hg0, hg1⟩ := own_ptr h.own (by intro e; have e2 := congrArg List.length e; rw [List.length_map] at e2; have := (List.getElem?_eq_some_iff.1 h.at_).1; simp at e2; rw [e2] at this; simp at this)
  subst hA3
  have H := Lib.hid h
  have hin := lnk_in hf hl
  have hn : (l.n : Int) = l.segs := by have := hf.1; unfold L.n; omega
  have hQl := bfs_len hf h.bfs
  have hrow := Row.own h.own (by decide)
  have hcon := Lib.hid (fun b (hb : hasI Q (k : Int) = b) => (o_contains_i (some ⟨g, 0, none⟩) c3 Q (k : Int) W (by omega) hrow.rowI.sl).mono fun e w' (he : e = .returned (.bool (hasI Q (k : Int))) ∧ W = w') => (⟨by rw [he.1, hb], he.2⟩ : e = .returned (.bool b) ∧ W = w'))
  have q0 := H.out.q.c (i := 0) rfl
  have qz := H.out.q.lt
  have hQl9 := Lib.hid hQl
  have hmx := hrow.mx
  have hcc := hrow.cap
  clear h
  have hk8 : k < 8 := by omega
  have hm8 : m < 8 := by omega
  have d4 := d1.symm
  have d5 := d2.symm
  have d6 := d3.symm
  have hkk : (k : Int) < 8 := by omega
  have hmm : (m : Int) < 8 := by omega
  cases hq : hasI Q (k : Int)
  · have hcon2 := Lib.hid (hcon.out false hq)
    have hno := Lib.hid (has_false.1 hq)
    replace hq := Lib.hid hq
    clear hcon hrow
    go_enter Try.func87, Try.ntmps87
    go_wp2_with fail
    go_at_call 88
    (with_reducible refine hcon2.out.mono ?_)
    rintro e w1 ⟨rfl, rfl⟩
    obtain ⟨w9, hw9⟩ : ∃ w9, w9 = W.alloc (.cells #[.int .i64 (k : Int)] 3) := ⟨_, rfl⟩
    have b9' : Below W.heap.size W w9 := by rw [hw9]; exact (Below.refl _ _).alloc (Nat.le_refl _) _
    have hsl := Lib.hid (show Sl w9 1 (some ⟨W.heap.size, 0, none⟩) ([(k : Int)].map ic) from bx_sl (T := 3) (vals := #[.int .i64 (k : Int)]) (by rw [hw9]; exact Bx.new _ _ _ rfl) rfl (by intro c hc; simp at hc; subst hc; rfl))
    have own9 := Lib.hid (H.out.own.below b9')
    have bq9 := Lib.hid (H.out.q.below b9')
    have bd9 := Lib.hid (H.out.d.below b9')
    have bs9 := Lib.hid (H.out.s.below b9')
    have bb9 := Lib.hid b9'
    have hn1 : Hid ((Q.map ic).length + ([(k : Int)].map ic).length ≤ 1000000) := Lib.hid (by rw [List.length_map]; have := hQl9.out; simp; omega)
    have hvl : Hid ((Q.map ic).length = Q.length) := Lib.hid (by rw [List.length_map])
    have hn0 : Hid (n0 ≤ w9.heap.size) := Lib.hid (Nat.le_trans (Nat.le_of_lt (Nat.lt_of_le_of_lt hg0 hg1)) b9'.size)
    clear b9' hcon2
    go_wp2_with (at_builtin
                 rw [← hw9]
                 (refine wpList_append_sl rfl (.tmp 9) (.tmp 11) 43 rfl IntP.elI (by rfl) own9.out (by rfl) (by rfl) hsl.out (wholeI _) (fun h => by cases h) hn1.out hn0.out ?_)
                 intro v' w4 own1 grow1 new1
                 clear q0 qz
                 have hq4 := Lib.hid (bq9.out.grown grow1 (fun e => H.out.nq e.symm))
                 have hq4f := hq4.out.f 0
                 have hq4l := hq4.out.lt
                 have hq4c := hq4.out.c (i := 0) rfl
                 have own2 := Lib.hid (own_snoc own1)
                 obtain ⟨A4, c4, hv4⟩ := own_form own2.out
                 subst hv4
                 clear own1
                 rw [show (Q ++ [(k : Int)]).length = Q.length + 1 by simp] at own2 new1
                 obtain ⟨w5, hw5⟩ : ∃ w5, w5 = w4.setCell ⟨bq, 0, none⟩ (.slice A4 (Q.length + 1) c4) := ⟨_, rfl⟩
                 have g5 := setCell_grown w4 bq 0 (.slice A4 (Q.length + 1) c4)
                 rw [← hw5] at g5
                 have nb4 : ∀ c, (c = bq ∨ c = bs ∨ c = b9) → (Value.slice A4 (Q.length + 1) c4).ownBlock ≠ some c := fun c hc e => by
                   have hlt : c < W.heap.size := hc.elim (fun h => h ▸ H.out.q.lt) (fun h => h.elim (fun h => h ▸ H.out.d.lt) (fun h => h ▸ H.out.s.lt))
                   rcases new1 with h | h
                   · rw [show (Value.slice A4 (Q.length + 1) c4).ownBlock = _ from h] at e
                     rcases hc with h | h | h
                     · exact H.out.nq (h ▸ e)
                     · exact H.out.ns (h ▸ e)
                     · exact H.out.n9 (h ▸ e)
                   · rw [show (Value.slice A4 (Q.length + 1) c4).ownBlock = _ from h] at e
                     have := bb9.out.size
                     have e := Option.some.inj e
                     omega
                 have hq5 := Lib.hid (show Bx w5 bq 43 #[.slice A4 (Q.length + 1) c4] by rw [hw5]; exact hq4.out.set 0 _)
                 have hd5 := Lib.hid ((bd9.out.grown grow1 (fun e => H.out.ns e.symm)).grown g5 (by intro e; exact d4 (Option.some.inj e)))
                 have hs5 := Lib.hid ((bs9.out.grown grow1 (fun e => H.out.n9 e.symm)).grown g5 (by intro e; exact d5 (Option.some.inj e)))
                 have ho5 := Lib.hid (own2.out.kept g5 (.inr (nb4 bq (.inl rfl))))
                 have st5 := Lib.hid (show Stay σ W w5 from ((Stay.of bb9.out).trans (Stay.grown grow1 (fun b e => (H.out.σis b).2 (.inr (.inr (.inr e)))))).trans (Stay.grown g5 (fun b e => by cases e; exact (H.out.σis bq).2 (.inl rfl))))
                 have new5 := Lib.hid new1
                 have sz9 := Lib.hid bb9.out.size
                 replace nb4 := Lib.hid nb4
                 replace hw5 := hw5.symm
                 clear hq4 own9 bq9 bd9 bs9 grow1 g5 own2 new1 bb9
                 have hD := bfs_lt H.out.bfs (List.mem_of_getElem? H.out.at_)
                 have hD0 := H.out.bfs.nn (List.mem_of_getElem? H.out.at_)
                 have hdc := hd5.out.c (A8_get (dN D) hm8)
                 have hdk := hd5.out.c (A8_get (dN D) hk8)
                 have hdf := hd5.out.f k
                 have hdl := hd5.out.lt
                 have hsc := hs5.out.c (i := 0) rfl
                 have hsl5 := hs5.out.lt
                 obtain ⟨dm, hdm⟩ : ∃ dm, D (m : Int) = dm := ⟨_, rfl⟩
                 have hdm2 : dN D m = dm := hdm
                 rw [hdm] at hD hD0
                 rw [hdm2] at hdc
                 have hwr : wrap64 (dm + 1) = dm + 1 := IntWalk.wrap64_in _ (by omega)
                 replace hdm := Lib.hid hdm
                 replace hdm2 := Lib.hid hdm2)
    refine bodyPost_end (v := .tuple #[]) (by simp [results, Try.results87, go_sem]) rfl ⟨rfl, fun b => b = bq ∨ b = bs ∨ b = b9 ∨ (Value.slice A4 (Q.length + 1) c4).ownBlock = some b, ⟨Q ++ [(k : Int)], updD D (k : Int) (D (m : Int) + 1), _, ⟨bfs_push hf H.out.bfs H.out.at_ hl hno.out, ?_, ?_, ?_, ?_, ?_, ?_, fun b => Iff.rfl, nb4.out bq (.inl rfl), nb4.out bs (.inr (.inl rfl)), nb4.out b9 (.inr (.inr rfl)), by obtain ⟨R, hR⟩ := H.out.pre; exact ⟨R ++ [(k : Int)], by rw [hR, List.append_assoc]⟩, fun y hy => by rw [← H.out.keep y hy]; unfold updD; rw [if_neg]; rintro rfl; obtain ⟨R, hR⟩ := H.out.pre; exact hno.out (hR ▸ List.mem_append_left _ hy)⟩⟩, ?_, ?_⟩
    · intro y hy
      rcases List.mem_append.1 hy with h | h
      · exact List.mem_append_left _ (H.out.sub y h)
      · exact List.mem_append_right _ h
    · rw [List.getElem?_append_left (List.getElem?_eq_some_iff.1 H.out.at_).1]; exact H.out.at_
    · exact hq5.out.other d1 _ _
    · exact ho5.out.kept (setCell_grown _ _ _ _) (.inr (nb4.out bs (.inr (.inl rfl))))
    · have h := hd5.out.set k (.int .i64 (dm + 1))
      rw [A8_set _ hk8, dN_upd] at h
      rw [hdm.out]
      exact h
    · exact hs5.out.other d6 _ _
    · intro b hb
      rcases hb with h | h | h | h
      · exact .inl ((H.out.σis b).2 (.inl h))
      · exact .inl ((H.out.σis b).2 (.inr (.inl h)))
      · exact .inl ((H.out.σis b).2 (.inr (.inr (.inl h))))
      · rcases new5.out with q | q
        · exact .inl ((H.out.σis b).2 (.inr (.inr (.inr (q ▸ h)))))
        · right
          have e := Option.some.inj ((show (Value.slice A4 (Q.length + 1) c4).ownBlock = _ from q).symm.trans h)
          have := sz9.out
          omega
    · exact st5.out.trans (Stay.set ((H.out.σis bs).2 (.inr (.inl rfl))) _ _ _)
  · have hcon2 := Lib.hid (hcon.out true hq)
    have hyes := Lib.hid (has_true.1 hq)
    replace hq := Lib.hid hq
    clear hcon hrow
    go_enter Try.func87, Try.ntmps87
    go_wp2_with fail
    go_at_call 88
    (with_reducible refine hcon2.out.mono ?_)
    rintro e w1 ⟨rfl, rfl⟩
    go_wp2_with fail
    exact bodyPost_end (v := .tuple #[]) (by simp [results, Try.results87, go_sem]) rfl ⟨rfl, σ, ⟨Q, D, _, { H.out with sub := fun y hy => (List.mem_append.1 hy).elim (H.out.sub y) (fun h => (List.mem_singleton.1 h).symm ▸ hyes.out) }⟩, fun b h => .inl h, Stay.refl _ _⟩
theorem q_enters : Enters 87 := enters_of Try.func87 (by kernel_rfl) rfl
theorem q_tel {l : L} (hf : l.fit) (h8 : l.n ≤ 8) {f : Int} {a n0 bq bs b9 : Nat} {s : Int} {Q0 : List Int} {D0 : Int → Int} (d1 : bq ≠ bs) (d2 : bq ≠ b9) (d3 : bs ≠ b9) :
    Tel (fun x => #[.int .i64 x]) 87 #[.pointer (some ⟨bq, 0, none⟩), .pointer (some ⟨bs, 0, none⟩), .pointer (some ⟨b9, 0, none⟩)] (fun x => lnk l s x = true) (fun _ => False) (QI l f a n0 bq bs b9 s Q0 D0) :=
  ⟨q_enters, fun T σ W h => by obtain ⟨Q, D, v, h⟩ := h; exact h.lt, fun T σ W S W' h k hS => by obtain ⟨Q, D, v, h⟩ := h; exact ⟨Q, D, v, h.stay k (fun b hb => (hS b hb).1)⟩, fun T σ W x hx _ h => q_call hf h8 hx h d1 d2 d3⟩
/-- The queue as it is behind some rounds of walk, and who was told so far. -/
structure WS (l : L) (f : Int) (k B bq bs : Nat) (I : List (Int × Int) → (Nat → Prop) → World → Prop) (σ τ : Nat → Prop) (Q : List Int) (D : Int → Int) (v : Value) (W : World) : Prop where
  bfs : Bfs l f k Q D
  q : Bx W bq 43 #[v]
  own : Own W B 3 1 v (Q.map ic)
  d : Bx W bs 99 (A8 (dN D))
  nq : v.ownBlock ≠ some bq
  ns : v.ownBlock ≠ some bs
  nl : v.ownBlock ≠ some B
  told : I ((Q.take k).map fun x => (x, D x)) τ W
  τis : ∀ b, τ b → σ b ∨ B ≤ b
  tq : ¬ τ bq
  ts : ¬ τ bs
  tl : ¬ τ B
  tv : ∀ b, v.ownBlock = some b → ¬ τ b
abbrev Pr (x : Int × Int) : Array Value := #[.int .i64 x.1, .int .i64 x.2]
section
variable {l : L} {f : Int} {k B bq bs : Nat} {I : List (Int × Int) → (Nat → Prop) → World → Prop} {σ τ : Nat → Prop} {Q : List Int} {D : Int → Int} {v : Value} {W W' : World} {g : Nat} {caps : Array Value} {ok : Int × Int → Prop} {ρ0 : Nat → Prop}
theorem WS.below (t : Tel Pr g caps ok ρ0 I) (h : WS l f k B bq bs I σ τ Q D v W) (hb : Below W.heap.size W W') : WS l f k B bq bs I σ τ Q D v W' :=
  ⟨h.bfs, h.q.below hb, h.own.below hb, h.d.below hb, h.nq, h.ns, h.nl, t.below h.told hb, h.τis, h.tq, h.ts, h.tl, h.tv⟩
/-- Behind a telling. -/
theorem WS.tell (t : Tel Pr g caps ok ρ0 I) (h : WS l f k B bq bs I σ τ Q D v W) (hBW : B < W.heap.size) {s : Int} (hs : Q[k]? = some s) {τ' : Nat → Prop} (h1 : I ((Q.take k).map (fun x => (x, D x)) ++ [(s, D s)]) τ' W') (h2 : ∀ b, τ' b → τ b ∨ W.heap.size ≤ b) (h3 : Stay τ W W') :
    I ((Q.take (k + 1)).map fun x => (x, D x)) τ' W' ∧ Bx W' bq 43 #[v] ∧ Own W' B 3 1 v (Q.map ic) ∧ Bx W' bs 99 (A8 (dN D)) ∧ (∀ b, τ' b → σ b ∨ B ≤ b) ∧ ¬ τ' bq ∧ ¬ τ' bs ∧ ¬ τ' B ∧ ∀ b, v.ownBlock = some b → ¬ τ' b := by
  refine ⟨?_, h3.bx h.q h.tq, own_stay h.own h3 h.tv, h3.bx h.d h.ts, fun b hb => ?_, fun hb => ?_, fun hb => ?_, fun hb => ?_, fun b e hb => ?_⟩
  · rw [List.take_add_one, hs, List.map_append]; exact h1
  · rcases h2 b hb with h4 | h4
    · exact h.τis b h4
    · right; omega
  · rcases h2 _ hb with h4 | h4
    · exact h.tq h4
    · have := h.q.lt; omega
  · rcases h2 _ hb with h4 | h4
    · exact h.ts h4
    · have := h.d.lt; omega
  · rcases h2 _ hb with h4 | h4
    · exact h.tl h4
    · omega
  · rcases h2 _ hb with h4 | h4
    · exact h.tv b e h4
    · have := (h.own.lt b e).2; omega
end
set_option maxHeartbeats 16000000 in
theorem o_walk {l : L} {A : Option Addr} {c : Nat} {B : Option Addr} {d : Nat} {w : World} {g : Nat} {caps : Array Value} {I : List (Int × Int) → (Nat → Prop) → World → Prop} {f : Int} {σ : Nat → Prop} (t : Tel Pr g caps (fun x => 0 ≤ x.1 ∧ x.1 < l.segs) (fun _ => False) I)
    (hr : ∀ W, Stay σ w W → LanR W l A c B d) (hs : Small l) (ho : l.ok = true) (hf0 : 0 ≤ f) (hf1 : f < l.segs) (hI : I [] σ w) :
    Calls Try.prog 52 #[lv l A c B d, .int .i64 f, fnV g caps] w fun e w' => e = .returned (.tuple #[]) ∧ ∃ (Q : List Int) (σ' : Nat → Prop), I (Q.map fun x => (x, l.dst f x)) σ' w' ∧ Q.Nodup ∧ (∀ x, x ∈ Q ↔ (0 ≤ x ∧ x < l.segs ∧ 0 ≤ l.dst f x)) ∧ (∀ b, σ' b → σ b ∨ w.heap.size ≤ b) ∧ Stay σ w w' := by
  have eg := t.enters
  unfold Enters at eg
  have hR := Lib.hid hr
  have hs8 := Lib.hid hs
  have hF := ok_fit ho
  have hsg := ok_segs ho
  have hn8 : l.n ≤ 8 := by have := hsg.2.1; have := hsg.2.2; omega
  have hσ := Lib.hid (t.lt _ _ _ hI)
  have hdst := Lib.hid (fun (Q : List Int) (D : Int → Int) (h : Bfs l f Q.length Q D) => bfs_dst hF hf0 hf1 h)
  have hwhy := Lib.hid (fun s (h0 : 0 ≤ s) (h1 : s < l.segs) => show whyI l s = 0 by unfold whyI; rw [if_pos ho, if_pos ⟨h0, h1⟩])
  obtain ⟨w0, hw0, X0, R0, B0⟩ := new3 w (hr w (Stay.refl _ _))
  obtain ⟨n1, hn1⟩ : ∃ n1, n1 = w.heap.size + 1 := ⟨_, rfl⟩
  have hz0 : w0.heap.size = w.heap.size + 1 := by rw [hw0]; simp
  obtain ⟨w1, hw1⟩ : ∃ W, W = w0.alloc (.cells #[.int .i64 f] 3) := ⟨_, rfl⟩
  have hz1 : w1.heap.size = n1 + 1 := by rw [hw1]; simp; omega
  obtain ⟨w2, hw2⟩ : ∃ W, W = w1.alloc (.cells #[.slice (some ⟨n1, 0, none⟩) 1 1] 43) := ⟨_, rfl⟩
  have hz2 : w2.heap.size = n1 + 1 + 1 := by rw [hw2]; simp; omega
  obtain ⟨w3, hw3⟩ : ∃ W, W = w2.alloc (.cells (A8 (dN fun _ => 0)) 99) := ⟨_, rfl⟩
  have b1 : Below w0.heap.size w0 w1 := by rw [hw1]; exact (Below.refl _ _).alloc (Nat.le_refl _) _
  have b2 : Below w1.heap.size w1 w2 := by rw [hw2]; exact (Below.refl _ _).alloc (Nat.le_refl _) _
  have b3 : Below w2.heap.size w2 w3 := by rw [hw3]; exact (Below.refl _ _).alloc (Nat.le_refl _) _
  obtain ⟨bq, hbq⟩ : ∃ bq, bq = w.heap.size + 1 + 1 := ⟨_, rfl⟩
  obtain ⟨bs, hbs⟩ : ∃ bs, bs = w.heap.size + 1 + 1 + 1 := ⟨_, rfl⟩
  have B3 := Lib.hid (bt (bt (bt B0 b1) b2) b3)
  have X3 := Lib.hid (((X0.below b1).below b2).below b3)
  have W3 := Lib.hid (show WS l f 0 w.heap.size bq bs I σ σ [f] (fun _ => 0) (.slice (some ⟨n1, 0, none⟩) 1 1) w3 from
    ⟨bfs_start hf0 hf1 rfl, (show Bx w2 bq 43 #[.slice (some ⟨n1, 0, none⟩) 1 1] by rw [hw2]; exact Bx.new _ _ _ (by omega)).below b3,
      (((show Own w1 n1 3 1 (.slice (some ⟨n1, 0, none⟩) 1 1) ([f].map ic) by rw [hw1, show n1 = w0.heap.size by omega]; exact IntP.own_lit w0 #[.int .i64 f] [f] w0.heap.size 1 (Nat.le_refl _) rfl rfl (by simp)).base (by omega)).below b2).below b3,
      by rw [hw3]; exact Bx.new _ _ _ (by omega), by show some n1 ≠ some bq; intro e; have := Option.some.inj e; omega, by show some n1 ≠ some bs; intro e; have := Option.some.inj e; omega, by show some n1 ≠ some w.heap.size; intro e; have := Option.some.inj e; omega,
      t.below (t.below (t.below (t.below hI B0) b1) b2) b3, fun b h => .inl h, fun h => by have := t.lt _ _ _ hI _ h; omega, fun h => by have := t.lt _ _ _ hI _ h; omega, fun h => by have := t.lt _ _ _ hI _ h; omega, fun b e h => by have := t.lt _ _ _ hI _ h; have e2 : n1 = b := Option.some.inj e; omega⟩)
  have hne : bq ≠ bs := by omega
  have hlw := Lib.hid (show w.heap.size < bq ∧ w.heap.size < bs by omega)
  have hw33 := Lib.hid hw3
  have hA0 : A8 (dN fun _ => 0) = #[.int .i64 0, .int .i64 0, .int .i64 0, .int .i64 0, .int .i64 0, .int .i64 0, .int .i64 0, .int .i64 0] := rfl
  rw [hA0] at hw3
  have x0 := X3.out.c (i := 0) rfl
  have zz := X3.out.lt
  replace hsg := Lib.hid hsg
  clear hr hI R0 X0 B0 b1 b2 b3 hA0 hz0 hz1 hz2
  go_enter Try.func52, Try.ntmps52
  go_upto_region 3 with fail
  rw [← hbs, ← hbq, ← hn1, ← hw0, ← hw1, ← hw2, ← hw3]
  clear hbs hbq hn1 hw0 hw1 hw2 hw3 hw33
  go_wp2_with fail
  clear x0 zz
  go_loopw [8, 9, 14] (fun u9 u8 i wr => ∃ (k : Nat) (Q : List Int) (D : Int → Int) (v : Value) (τ : Nat → Prop), i = .int .i64 k ∧ k ≤ l.n ∧ WS l f k w.heap.size bq bs I σ τ Q D v wr ∧ Bx wr w.heap.size 25 (lc l A c B d) ∧ Stay σ w wr ∧ w.heap.size < wr.heap.size) (fun _ _ i _ => l.n - (intOf i).toNat)
  case atStart => exact ⟨0, [f], fun _ => 0, _, σ, rfl, by omega, W3.out, X3.out, Stay.of B3.out, X3.out.lt⟩
  case round =>
    clear W3 X3 B3
    obtain ⟨k, Q, D, v, τ, rfl, hk, hW, hX, hst, hsz⟩ := hrel
    obtain ⟨wo, hwo⟩ : ∃ W, W = wr := ⟨_, rfl⟩
    subst hwo
    obtain ⟨A3, c3, hv3⟩ := own_form hW.own
    subst hv3
    have hQn := bfs_len hF hW.bfs
    have hkQ := hW.bfs.len
    have hsgo := hsg.out
    by_cases hkn : k < l.n
    · have hkl : (k : Int) < l.segs := by omega
      have H := Lib.hid hW
      have q0 := hW.q.c (i := 0) rfl
      have qz := hW.q.lt
      have hmx := (Row.own hW.own (by decide)).mx
      have hcp := (Row.own hW.own (by decide)).cap
      replace hX := Lib.hid hX
      replace hst := Lib.hid hst
      clear hW
      by_cases hke : k = Q.length
      · have hkk : ((k : Int) == (Q.length : Int)) = true := by rw [beq_iff_eq]; omega
        subst hke
        have hend := Lib.hid (hdst.out Q D H.out.bfs)
        have hIe := Lib.hid (show I (Q.map fun x => (x, l.dst f x)) τ wo from by
          have := H.out.told
          rw [List.take_length, List.map_congr_left (fun x hx => show (x, D x) = (x, l.dst f x) by rw [hend.out.1 x hx])] at this
          exact this)
        go_wp2_with fail
        exact bodyPost_ret (v := .tuple #[]) (by simp [results, Try.results52, go_sem]) rfl ⟨rfl, Q, τ, hIe.out, H.out.bfs.nod, hend.out.2, H.out.τis, hst.out⟩
      · have hkk : ((k : Int) == (Q.length : Int)) = false := by simpa using (show ¬ (k : Int) = (Q.length : Int) by omega)
        have hkl2 : k < Q.length := by omega
        have hkl3 : (k : Int) < (Q.length : Int) := by omega
        obtain ⟨s, hs⟩ : ∃ s, Q[k]? = some s := ⟨_, List.getElem?_eq_getElem hkl2⟩
        obtain ⟨bU, oU, hAU, hbU, u0⟩ := Row.iat (Row.own H.out.own (by decide)) hs
        subst hAU
        have hsr := H.out.bfs.rng s (List.mem_of_getElem? hs)
        obtain ⟨m, rfl⟩ := nat_of hsr.1 hsr.2
        have hmsg := Lib.hid hsr.2
        have hm8 : m < 8 := by omega
        have hmm : (m : Int) < 8 := by omega
        obtain ⟨dm, hdm⟩ : ∃ dm, D (m : Int) = dm := ⟨_, rfl⟩
        obtain ⟨b9, hb9⟩ : ∃ b9, b9 = wo.heap.size := ⟨_, rfl⟩
        obtain ⟨w4, hw4⟩ : ∃ W, W = wo.alloc (.cells #[.int .i64 (m : Int)] 3) := ⟨_, rfl⟩
        have bb4 : Below wo.heap.size wo w4 := by rw [hw4]; exact (Below.refl _ _).alloc (Nat.le_refl _) _
        have S4 := Lib.hid (show Bx w4 b9 3 #[.int .i64 (m : Int)] by rw [hw4]; exact Bx.new _ _ _ hb9.symm)
        have H4 := Lib.hid (H.out.below t bb4)
        have X4 := Lib.hid (hX.out.below bb4)
        have st4 := Lib.hid (hst.out.trans (Stay.of bb4))
        have n9 := Lib.hid (show bq < b9 ∧ bs < b9 ∧ (∀ b, (Value.slice (some ⟨bU, oU, none⟩) Q.length c3).ownBlock = some b → b < b9) ∧ (∀ b, τ b → b < b9) ∧ w.heap.size < b9 from by
          rw [hb9]; exact ⟨H.out.q.lt, H.out.d.lt, fun b e => (H.out.own.lt b e).2, t.lt _ _ _ H.out.told, hsz⟩)
        have s4 := Lib.hid (show b9 < w4.heap.size from S4.out.lt)
        replace hke := Lib.hid hke
        replace hs := Lib.hid hs
        replace hdm := Lib.hid hdm
        clear bb4 hX hst hsr
        go_upto_region 8 with fail
        rw [← hw4, ← hb9]
        clear hw4 hb9 q0 qz u0 hbU
        have p1 : w4.cell? ⟨bs, m, none⟩ = some (.int .i64 dm) := by rw [← hdm.out]; exact H4.out.d.c (A8_get (dN D) hm8)
        have p2 := H4.out.d.lt
        have p3 := S4.out.c (i := 0) rfl
        have p4 := S4.out.lt
        have hcall := Lib.hid (fun (W : World) (h : I ((Q.take k).map fun x => (x, D x)) τ W) => t.call _ _ W ((m : Int), dm) (show 0 ≤ (m : Int) ∧ (m : Int) < l.segs from ⟨by omega, by have := hmsg.out; omega⟩) (by rw [List.length_map, List.length_take]; omega) h)
        refine wp_region_ends (by kernel_rfl) (fun ix => match ix with | 0 => 25 | 1 => 26 | 2 => 27 | 3 => 28 | 4 => 29 | _ => 0) 5 (by kernel_rfl) (fun i v W => match i with | 0 => v = fnV g caps | 1 => v = .int .i64 (m : Int) | 2 => v = .int .i64 (m : Int) | 3 => v = .pointer (some ⟨bs, m, none⟩) | 4 => v = .int .i64 dm | _ => True) (fun i v W W' h hb => by
            match i with
            | 0 => exact h
            | 1 => exact h
            | 2 => exact h
            | 3 => exact h
            | 4 => exact h
            | n + 5 => exact trivial) ?_ ?_
        refine ⟨?_, ?_, ?_, ?_, ?_, trivial⟩
        · as_aux_lemma =>
            intro a W2 K hb hdep hk hK
            replace hK : ∀ v w', (v = fnV g caps) → Below W2.heap.size W2 w' → K (a.put (some 25) v) w' := hK
            have d2 : a.tmps.getD 2 undef = fnV g caps := hk 2 (by kernel_rfl)
            clear hdep hk hb
            go_simp
            exact hK _ _ rfl (Below.refl _ _)
        · as_aux_lemma =>
            intro a W2 K hb hdep hk hK
            replace hK : ∀ v w', (v = .int .i64 (m : Int)) → Below W2.heap.size W2 w' → K (a.put (some 26) v) w' := hK
            have d9 : a.tmps.getD 9 undef = .pointer (some ⟨b9, 0, none⟩) := hk 9 (by kernel_rfl)
            have r1 := (hb.cell (p := ⟨b9, 0, none⟩) p4).trans p3
            clear hdep hk hb
            go_simp
            exact hK _ _ rfl (Below.refl _ _)
        · as_aux_lemma =>
            intro a W2 K hb hdep hk hK
            replace hK : ∀ v w', (v = .int .i64 (m : Int)) → Below W2.heap.size W2 w' → K (a.put (some 27) v) w' := hK
            have d9 : a.tmps.getD 9 undef = .pointer (some ⟨b9, 0, none⟩) := hk 9 (by kernel_rfl)
            have r1 := (hb.cell (p := ⟨b9, 0, none⟩) p4).trans p3
            clear hdep hk hb
            go_simp
            exact hK _ _ rfl (Below.refl _ _)
        · as_aux_lemma =>
            intro a W2 K hb hdep hk hK
            replace hK : ∀ v w', (v = .pointer (some ⟨bs, m, none⟩)) → Below W2.heap.size W2 w' → K (a.put (some 28) v) w' := hK
            have d7 : a.tmps.getD 7 undef = .pointer (some ⟨bs, 0, none⟩) := hk 7 (by kernel_rfl)
            have d27 : a.tmps.getD 27 undef = .int .i64 (m : Int) := hdep ⟨2, .data⟩ (by simp) rfl
            have r2 := Nat.lt_of_lt_of_le p2 hb.size
            clear hdep hk hb
            go_simp
            exact hK _ _ rfl (Below.refl _ _)
        · as_aux_lemma =>
            intro a W2 K hb hdep hk hK
            replace hK : ∀ v w', (v = .int .i64 dm) → Below W2.heap.size W2 w' → K (a.put (some 29) v) w' := hK
            have d28 : a.tmps.getD 28 undef = .pointer (some ⟨bs, m, none⟩) := hdep ⟨3, .data⟩ (by simp) rfl
            have r1 := (hb.cell (p := ⟨bs, m, none⟩) p2).trans p1
            clear hdep hk hb
            go_simp
            exact hK _ _ rfl (Below.refl _ _)
        intro a W3 hb3 hsp hk hn hdf
        have s0 : a.tmps.getD 0 undef = lv l A c B d := hk 0 (by kernel_rfl)
        have s1 : a.tmps.getD 1 undef = .int .i64 f := hk 1 (by kernel_rfl)
        have s2 : a.tmps.getD 2 undef = fnV g caps := hk 2 (by kernel_rfl)
        have s3 : a.tmps.getD 3 undef = .pointer (some ⟨w.heap.size, 0, none⟩) := hk 3 (by kernel_rfl)
        have s4 : a.tmps.getD 4 undef = undef := hk 4 (by kernel_rfl)
        have s5 : a.tmps.getD 5 undef = undef := hk 5 (by kernel_rfl)
        have s6 : a.tmps.getD 6 undef = .pointer (some ⟨bq, 0, none⟩) := hk 6 (by kernel_rfl)
        have s7 : a.tmps.getD 7 undef = .pointer (some ⟨bs, 0, none⟩) := hk 7 (by kernel_rfl)
        have s8 : a.tmps.getD 8 undef = .int .i64 (k : Int) := hk 8 (by kernel_rfl)
        have s9 : a.tmps.getD 9 undef = .pointer (some ⟨b9, 0, none⟩) := hk 9 (by kernel_rfl)
        have s10 : a.tmps.getD 10 undef = .int .i64 f := hk 10 (by kernel_rfl)
        have s11 : a.tmps.getD 11 undef = .slice (some ⟨n1, 0, none⟩) 1 1 := hk 11 (by kernel_rfl)
        have s12 : a.tmps.getD 12 undef = .pointer (some ⟨w.heap.size, 0, none⟩) := hk 12 (by kernel_rfl)
        have s13 : a.tmps.getD 13 undef = .int .i64 l.segs := hk 13 (by kernel_rfl)
        have s14 : a.tmps.getD 14 undef = .int .i64 (k : Int) := hk 14 (by kernel_rfl)
        have s25 : a.tmps.getD 25 undef = fnV g caps := hsp 0 (by decide)
        have s26 : a.tmps.getD 26 undef = .int .i64 (m : Int) := hsp 1 (by decide)
        have s27 : a.tmps.getD 27 undef = .int .i64 (m : Int) := hsp 2 (by decide)
        have s28 : a.tmps.getD 28 undef = .pointer (some ⟨bs, m, none⟩) := hsp 3 (by decide)
        have s29 : a.tmps.getD 29 undef = .int .i64 dm := hsp 4 (by decide)
        clear hk hsp
        obtain ⟨tm, df⟩ := a
        have e := arr_out tm 36 hn
        replace e : tm = #[tm.getD 0 undef, tm.getD 1 undef, tm.getD 2 undef, tm.getD 3 undef, tm.getD 4 undef, tm.getD 5 undef, tm.getD 6 undef, tm.getD 7 undef, tm.getD 8 undef, tm.getD 9 undef, tm.getD 10 undef, tm.getD 11 undef, tm.getD 12 undef, tm.getD 13 undef, tm.getD 14 undef, tm.getD 15 undef, tm.getD 16 undef, tm.getD 17 undef, tm.getD 18 undef, tm.getD 19 undef, tm.getD 20 undef, tm.getD 21 undef, tm.getD 22 undef, tm.getD 23 undef, tm.getD 24 undef, tm.getD 25 undef, tm.getD 26 undef, tm.getD 27 undef, tm.getD 28 undef, tm.getD 29 undef, tm.getD 30 undef, tm.getD 31 undef, tm.getD 32 undef, tm.getD 33 undef, tm.getD 34 undef, tm.getD 35 undef] := e
        simp only at s0 s1 s2 s3 s4 s5 s6 s7 s8 s9 s10 s11 s12 s13 s14 s25 s26 s27 s28 s29 hdf
        rw [s0, s1, s2, s3, s4, s5, s6, s7, s8, s9, s10, s11, s12, s13, s14, s25, s26, s27, s28, s29] at e
        subst hdf
        clear s0 s1 s2 s3 s4 s5 s6 s7 s8 s9 s10 s11 s12 s13 s14 s25 s26 s27 s28 s29 hn
        generalize tm.getD 15 undef = u15 at e
        generalize tm.getD 16 undef = u16 at e
        generalize tm.getD 17 undef = u17 at e
        generalize tm.getD 18 undef = u18 at e
        generalize tm.getD 19 undef = u19 at e
        generalize tm.getD 20 undef = u20 at e
        generalize tm.getD 21 undef = u21 at e
        generalize tm.getD 22 undef = u22 at e
        generalize tm.getD 23 undef = u23 at e
        generalize tm.getD 24 undef = u24 at e
        generalize tm.getD 30 undef = u30 at e
        generalize tm.getD 31 undef = u31 at e
        generalize tm.getD 32 undef = u32 at e
        generalize tm.getD 33 undef = u33 at e
        generalize tm.getD 34 undef = u34 at e
        generalize tm.getD 35 undef = u35 at e
        subst e
        simp only [List.drop_succ_cons, List.drop_zero]
        have H5 := Lib.hid (H4.out.below t hb3)
        have X5 := Lib.hid (X4.out.below hb3)
        have S5 := Lib.hid (S4.out.below hb3)
        have st5 := Lib.hid (st4.out.trans (Stay.of hb3))
        have s5 := Lib.hid (Nat.lt_of_lt_of_le s4.out hb3.size)
        have hcall5 := Lib.hid (hcall.out _ H5.out.told)
        clear H4 X4 S4 st4 s4 hb3 hcall p1 p2 p3 p4
        go_wp2_with fail
        go_at_fn g
        (with_reducible refine hcall5.out.mono ?_)
        rintro e w6 ⟨rfl, τ', hI', hτ', hst'⟩
        rw [← hdm.out] at hI'
        obtain ⟨k1, k2, k3, k4, k5, k6, k7, k8, k9⟩ := WS.tell t H5.out (Nat.lt_trans n9.out.2.2.2.2 s5.out) hs.out hI' hτ' hst'
        have hn9 : ¬ τ' b9 := fun h => by
          rcases hτ' _ h with h | h
          · have := n9.out.2.2.2.1 _ h; omega
          · have := s5.out; omega
        have S6 := Lib.hid (hst'.bx S5.out (fun h => by have := n9.out.2.2.2.1 _ h; omega))
        have X6 := Lib.hid (hst'.bx X5.out H5.out.tl)
        have st6 := Lib.hid (st5.out.on hst' H5.out.τis)
        have z6 := Lib.hid (Nat.lt_of_lt_of_le s5.out hst'.size)
        have o6 := Lib.hid (show QI l f k w.heap.size bq bs b9 (m : Int) Q D [] (fun b => b = bq ∨ b = bs ∨ b = b9 ∨ (Value.slice (some ⟨bU, oU, none⟩) Q.length c3).ownBlock = some b) w6 from
          ⟨Q, D, _, H5.out.bfs, fun x h => (by cases h), hs.out, k2, k3, k4, S6.out, fun b => Iff.rfl, H5.out.nq, H5.out.ns, fun e => by have := n9.out.2.2.1 _ e; omega, ⟨[], by simp⟩, fun x _ => rfl⟩)
        have hσq := Lib.hid (show ∀ b, (b = bq ∨ b = bs ∨ b = b9 ∨ (Value.slice (some ⟨bU, oU, none⟩) Q.length c3).ownBlock = some b) → ¬ τ' b ∧ b ≠ w.heap.size ∧ w.heap.size ≤ b from fun b h => by
          have h1 := hlw.out
          have h2 := n9.out
          rcases h with rfl | rfl | rfl | e
          · exact ⟨k6, by omega, by omega⟩
          · exact ⟨k7, by omega, by omega⟩
          · exact ⟨hn9, by omega, by omega⟩
          · refine ⟨k9 b e, fun q => H5.out.nl (q ▸ e), (H5.out.own.lt b e).1⟩)
        have hac := Lib.hid (fun W (hW : LanR W l A c B d → True) => trivial)
        have ha := Lib.hid (o_across (q_tel hF hn8 hne (by have := n9.out; omega) (by have := n9.out; omega)) (fun W hW => hR.out W (st6.out.on hW (fun b h => .inr (hσq.out b h).2.2))) hs8.out (hwhy.out m (by omega) hmsg.out) o6.out)
        replace k1 := Lib.hid k1
        replace k5 := Lib.hid k5
        replace k6 := Lib.hid k6
        replace k7 := Lib.hid k7
        replace k8 := Lib.hid k8
        replace hn9 := Lib.hid hn9
        have Hb := Lib.hid (⟨H5.out.bfs, H5.out.nl⟩ : Bfs l f k Q D ∧ (Value.slice (some ⟨bU, oU, none⟩) Q.length c3).ownBlock ≠ some w.heap.size)
        clear H5 X5 S5 st5 s5 hcall5 hI' hτ' hst' k2 k3 k4 k9 hac
        have x0 := X6.out.c (i := 0) rfl
        have x1 := X6.out.c (i := 1) rfl
        have x2 := X6.out.c (i := 2) rfl
        have zz := X6.out.lt
        have y0 := S6.out.c (i := 0) rfl
        have yz := S6.out.lt
        go_wp2_with fail
        go_at_call 86
        (with_reducible refine ha.out.mono ?_)
        rintro e w7 ⟨rfl, σ7, hQ7, hσ7, hst7⟩
        obtain ⟨Q', D', v', q7⟩ := hQ7
        obtain ⟨R, hR7⟩ := q7.pre
        have hτl := t.lt _ _ _ k1.out
        have htk : Q'.take (k + 1) = Q.take (k + 1) := by rw [hR7, List.take_append_of_le_length (by omega)]
        have W7 := Lib.hid (show WS l f (k + 1) w.heap.size bq bs I σ τ' Q' D' v' w7 from
          ⟨bfs_next q7.bfs q7.at_ (fun t ht => q7.sub t (mem_acr.2 ht)), q7.q, q7.own, q7.d, q7.nq, q7.ns,
            fun e => by
              rcases hσ7 _ ((q7.σis _).2 (.inr (.inr (.inr e)))) with h | h
              · exact (hσq.out _ h).2.1 rfl
              · have := z6.out; have := n9.out; omega,
            by
              have := t.stay _ _ _ _ _ k1.out hst7 (fun b h => ⟨(hσq.out b h).1, id⟩)
              rw [htk, List.map_congr_left (fun x hx => show (x, D' x) = (x, D x) by rw [q7.keep x (List.mem_of_mem_take hx)])]
              exact this, k5.out, k6.out, k7.out, k8.out,
            fun b e h => by
              rcases hσ7 _ ((q7.σis _).2 (.inr (.inr (.inr e)))) with h2 | h2
              · exact (hσq.out _ h2).1 h
              · have := hτl _ h; omega⟩)
        have X7 := Lib.hid (hst7.bx X6.out (fun h => (hσq.out _ h).2.1 rfl))
        have st7 := Lib.hid (st6.out.on hst7 (fun b h => .inr (hσq.out b h).2.2))
        have z7 := Nat.lt_of_lt_of_le (Nat.lt_trans n9.out.2.2.2.2 z6.out) hst7.size
        clear q7 hσ7 hst7 ha X6 S6 st6 x0 x1 x2 zz y0 yz hτl htk hR7 o6 k1
        go_wp2_with fail
        go_roundw
        case rel => exact ⟨k + 1, Q', D', v', τ', by go_num, by omega, W7.out, X7.out, st7.out, z7⟩
        case measure => simp [intOf]; omega
    · obtain rfl : k = l.n := by omega
      have hkQ2 : Q.length = l.n := by omega
      have hkl : ¬ ((l.n : Int) < l.segs) := by omega
      have H := Lib.hid hW
      have hBf := H.out.bfs
      rw [← hkQ2] at hBf
      have hend := Lib.hid (hdst.out Q D hBf)
      have hIe := Lib.hid (show I (Q.map fun x => (x, l.dst f x)) τ wo from by
        have := H.out.told
        rw [← hkQ2, List.take_length, List.map_congr_left (fun x hx => show (x, D x) = (x, l.dst f x) by rw [hend.out.1 x hx])] at this
        exact this)
      replace hst := Lib.hid hst
      replace hkQ2 := Lib.hid hkQ2
      clear hW hX hBf
      go_wp2_with fail
      exact bodyPost_end (v := .tuple #[]) (by simp [results, Try.results52, go_sem]) rfl ⟨rfl, Q, τ, hIe.out, H.out.bfs.nod, hend.out.2, H.out.τis, hst.out⟩
end Go.Proofs.Ytgcmklliafcffaa.LanP
