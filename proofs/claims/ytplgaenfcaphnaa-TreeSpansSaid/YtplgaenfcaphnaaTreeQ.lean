/-
  A region that draws its order, in which each operation may write old blocks of its own (Wr): an operation at a time, in whatever order.
-/
import Derived.Test.YtplgaenfcaphnaaRegSts
import Derived.Test.YtplgaenfcaphnaaTreeC
import Derived.Test.YtplgaenfcaphnaaTreeN
import Derived.Test.YtplgaenfcaphnaaLanS
import Derived.BigRegion
import Derived.Deep.LoopGhost
namespace Go.Proofs.Ytplgaenfcaphnaa.MacP
open Go.RowKit Go.Sort Go.Proofs.Ytplgaenfcaphnaa.LanP
set_option linter.unusedVariables false
section
variable {P : Program} {ops : Array Oper} {Q : Exit → Act → World → Prop}
def stayB (ops : Array Oper) (d : Nat → Nat) (isS : Nat → Bool) (n : Nat) : Bool :=
  orderB ops && (List.range ops.size).all fun i => ((ops[i]?).map fun o => o.guard.isNone && (isS i || o.dst == some (d i))).getD false && (isS i || (decide (d i < n) && (List.range ops.size).all fun j => decide (i = j) || isS j || decide (d i ≠ d j)))
structure StayE (ops : Array Oper) (d : Nat → Nat) (isS : Nat → Bool) (n : Nat) : Prop where
  order : orderB ops = true
  guard : ∀ (i : Nat) (o : Oper), ops[i]? = some o → o.guard = none
  plain : ∀ (i : Nat) (o : Oper), isS i = false → ops[i]? = some o → o.dst = some (d i) ∧ d i < n ∧ ∀ j, j < ops.size → isS j = false → i ≠ j → d i ≠ d j
theorem StayE.of {d : Nat → Nat} {isS : Nat → Bool} {n : Nat} (h : stayB ops d isS n = true) : StayE ops d isS n := by
  unfold stayB at h
  rw [Bool.and_eq_true] at h
  obtain ⟨h1, h2⟩ := h
  rw [List.all_eq_true] at h2
  refine ⟨h1, fun i o ho => ?_, fun i o hi ho => ?_⟩
  · have := h2 i (List.mem_range.2 (Array.getElem?_eq_some_iff.1 ho).1)
    rw [Bool.and_eq_true] at this
    have := this.1
    simp only [ho, Option.map_some, Option.getD_some, Bool.and_eq_true, Option.isNone_iff_eq_none] at this
    exact this.1
  · have := h2 i (List.mem_range.2 (Array.getElem?_eq_some_iff.1 ho).1)
    simp only [ho, hi, Option.map_some, Option.getD_some, Bool.and_eq_true, Bool.false_or, beq_iff_eq, decide_eq_true_eq, List.all_eq_true, List.mem_range, Bool.or_eq_true] at this
    refine ⟨this.1.2, this.2.1, fun j hj hs hne => ?_⟩
    rcases this.2.2 j hj with (e1 | e1) | e1
    · exact absurd e1 hne
    · rw [hs] at e1; cases e1
    · exact e1
def outY (ops : Array Oper) (d : Nat → Nat) (isS : Nat → Bool) (k : Nat) : Bool := (List.range ops.size).all fun j => isS j || decide (d j ≠ k)
/-- .. or by those that wait for i alone. -/
def outZ (ops : Array Oper) (d : Nat → Nat) (isS : Nat → Bool) (i k : Nat) : Bool := (List.range ops.size).all fun j => isS j || decide (d j ≠ k) || decide (j = i) || edgeB ops j i
def valY (d : Nat → Nat) (isS : Nat → Bool) (a : Act) (i : Nat) : Value := if isS i = true then undef else a.tmps.getD (d i) undef
/-- What is asked of the operations, one by one. -/
def StayOk (P : Program) (Q : Exit → Act → World → Prop) (ops : Array Oper) (d : Nat → Nat) (isS : Nat → Bool) (Wr : Nat → Nat → Prop) (sp : Nat → Value → World → Prop) (a0 : Act) (w0 : World) : List Oper → Nat → Prop
  | [], _ => True
  | o :: rest, i => (∀ (a : Act) (w : World) (K : Act → World → Prop), Stay (fun b => ∃ j, j ≠ i ∧ Wr j b) w0 w → (∀ e ∈ o.after, Region.binds .any e = true → sp e.on (valY d isS a e.on) w) →
      (∀ k, outZ ops d isS i k = true → a.tmps.getD k undef = a0.tmps.getD k undef) →
      (if isS i = true then ∀ w', sp i undef w' → Stay (Wr i) w w' → K a w' else ∀ v w', sp i v w' → Stay (Wr i) w w' → K (a.put (some (d i)) v) w') → Oper.wp P o a w K Q) ∧ StayOk P Q ops d isS Wr sp a0 w0 rest (i + 1)
theorem stayOk_at {d : Nat → Nat} {isS : Nat → Bool} {Wr : Nat → Nat → Prop} {sp : Nat → Value → World → Prop} {a0 : Act} {w0 : World} : ∀ (l : List Oper) (n i : Nat) (o : Oper), StayOk P Q ops d isS Wr sp a0 w0 l n → l[i]? = some o →
    ∀ (a : Act) (w : World) (K : Act → World → Prop), Stay (fun b => ∃ j, j ≠ n + i ∧ Wr j b) w0 w → (∀ e ∈ o.after, Region.binds .any e = true → sp e.on (valY d isS a e.on) w) →
      (∀ k, outZ ops d isS (n + i) k = true → a.tmps.getD k undef = a0.tmps.getD k undef) →
      (if isS (n + i) = true then ∀ w', sp (n + i) undef w' → Stay (Wr (n + i)) w w' → K a w' else ∀ v w', sp (n + i) v w' → Stay (Wr (n + i)) w w' → K (a.put (some (d (n + i))) v) w') → Oper.wp P o a w K Q
  | [], n, i, o, _, h => by simp at h
  | p :: rest, n, 0, o, hk, h => by
    obtain rfl : p = o := by simpa using h
    exact hk.1
  | p :: rest, n, i + 1, o, hk, h => by
    have := stayOk_at rest (n + 1) i o hk.2 (by simpa using h)
    rw [show n + 1 + i = n + (i + 1) by omega] at this
    exact this
def on (listed : Array Bool) (i : Nat) : Prop := listed.getD i false = true
structure StayInv (ops : Array Oper) (d : Nat → Nat) (isS : Nat → Bool) (Wr : Nat → Nat → Prop) (sp : Nat → Value → World → Prop) (a0 : Act) (w0 : World) (listed : Array Bool) (a : Act) (w : World) : Prop where
  ls : listed.size = ops.size
  sz : a.tmps.size = a0.tmps.size
  df : a.defers = a0.defers
  vs : ∀ i, on listed i → sp i (valY d isS a i) w
  ks : ∀ k, (∀ j, on listed j → isS j = false → d j ≠ k) → a.tmps.getD k undef = a0.tmps.getD k undef
  dn : ∀ j o, on listed j → ops[j]? = some o → ∀ e ∈ o.after, Region.binds .any e = true → on listed e.on
  w : Stay (fun b => ∃ j, on listed j ∧ Wr j b) w0 w
theorem stay_weak {S S' : Nat → Prop} {w w' : World} (h : Stay S w w') (hS : ∀ b, S b → S' b) : Stay S' w w' := ⟨h.os, h.tape, h.output, h.size, fun k hk hn => h.block k hk (fun q => hn (hS k q))⟩
set_option maxHeartbeats 1000000 in
theorem wp_region_stay {id : Nat} {l : List Oper} {a0 : Act} {w0 : World} (hm : P.follows .mixedOrders = true) (d : Nat → Nat) (isS : Nat → Bool) (hE : stayB l.toArray d isS a0.tmps.size = true)
    (Wr : Nat → Nat → Prop) (sp : Nat → Value → World → Prop) (mono : ∀ i j v W W', i ≠ j → edgeB l.toArray i j = false → Stay (Wr j) W W' → sp i v W → sp i v W')
    (hop : StayOk P Q l.toArray d isS Wr sp a0 w0 l 0)
    (hend : ∀ (a : Act) (w : World), (∀ i, i < l.length → sp i (valY d isS a i) w) → (∀ k, outY l.toArray d isS k = true → a.tmps.getD k undef = a0.tmps.getD k undef) → a.tmps.size = a0.tmps.size → a.defers = a0.defers → Stay (fun b => ∃ j, Wr j b) w0 w → Q .normal a w) :
    (Code.region id l.toArray true).wp P Q a0 w0 := by
  have E := StayE.of hE
  refine wp_region_any hm ?_
  have hll : l.toArray.size = l.length := by simp
  have hget : ∀ i : Nat, l.toArray[i]? = l[i]? := fun i => List.getElem?_toArray
  refine wpAny_of_inv (StayInv l.toArray d isS Wr sp a0 w0) (fun _ _ _ h => h.ls) ?_ ?_ _ _ _ _ ?_ ?_
  · intro listed a w i h hi
    obtain ⟨h1, o, hoi, hdeps⟩ := mem_ready.1 hi
    have hilt : i < l.toArray.size := (Array.getElem?_eq_some_iff.1 hoi).1
    have hoi' : l[i]? = some o := by rw [← hget]; exact hoi
    have hli : ¬ on listed i := by
      have : i < listed.size := by rw [h.ls]; exact hilt
      unfold on
      simp only [Array.getD_eq_getD_getElem?, Array.getElem?_eq_getElem this, Option.getD_some] at h1 ⊢
      rw [h1]; simp
    have hset : ∀ j, on (listed.setIfInBounds i true) j → j = i ∨ on listed j := fun j hj => by
      by_cases hji : j = i
      · exact .inl hji
      · right
        unfold on at hj ⊢
        simpa [Array.getD_eq_getD_getElem?, Array.getElem?_setIfInBounds_ne (Ne.symm hji)] using hj
    have hup : ∀ j, on listed j → on (listed.setIfInBounds i true) j := fun j hj => by
      by_cases hji : j = i
      · subst hji; exact absurd hj hli
      · unfold on at hj ⊢
        simpa [Array.getD_eq_getD_getElem?, Array.getElem?_setIfInBounds_ne (Ne.symm hji)] using hj
    have hself : on (listed.setIfInBounds i true) i := by
      have : i < listed.size := by rw [h.ls]; exact hilt
      unfold on
      simp [this]
    have hdn : ∀ j o', on (listed.setIfInBounds i true) j → l.toArray[j]? = some o' → ∀ e ∈ o'.after, Region.binds .any e = true → on (listed.setIfInBounds i true) e.on := fun j o' hj hoj e he hb => by
      rcases hset j hj with rfl | hj'
      · obtain rfl : o' = o := by rw [hoi] at hoj; exact (Option.some.inj hoj).symm
        exact hup _ (hdeps e he hb)
      · exact hup _ (h.dn j o' hj' hoj e he hb)
    have hlt : ∀ j, on listed j → j < l.toArray.size := fun j hj => by
      rw [← h.ls]
      rcases Nat.lt_or_ge j listed.size with q | q
      · exact q
      · unfold on at hj; simp [Array.getElem?_eq_none q] at hj
    have hks : ∀ k, outZ l.toArray d isS i k = true → a.tmps.getD k undef = a0.tmps.getD k undef := fun k hk => h.ks k fun j hj hs => by
      unfold outZ at hk
      rw [List.all_eq_true] at hk
      have := hk j (List.mem_range.2 (hlt j hj))
      simp only [Bool.or_eq_true, decide_eq_true_eq] at this
      rcases this with ((q | q) | q) | q
      · rw [hs] at q; cases q
      · exact q
      · subst q; exact absurd hj hli
      · obtain ⟨oj, hoj⟩ : ∃ oj, l.toArray[j]? = some oj := ⟨_, Array.getElem?_eq_getElem (hlt j hj)⟩
        obtain ⟨e, he, hon, hbd⟩ := edge_of q hoj
        have := h.dn j oj hj hoj e he hbd
        rw [hon] at this
        exact absurd this hli
    have hw : Region.wanted o (yielded l.toArray a.tmps) = true := by simp [Region.wanted, E.guard i o hoi]
    unfold wpOp
    simp only [hoi]
    rw [if_pos hw]
    have hed : ∀ j, on listed j → edgeB l.toArray j i = false := fun j hj => by
      cases q : edgeB l.toArray j i with
      | false => rfl
      | true =>
        obtain ⟨oj, hoj⟩ : ∃ oj, l.toArray[j]? = some oj := ⟨_, Array.getElem?_eq_getElem (hlt j hj)⟩
        obtain ⟨e, he, hon, hbd⟩ := edge_of q hoj
        have := h.dn j oj hj hoj e he hbd
        rw [hon] at this
        exact absurd this hli
    have hob := stayOk_at l 0 i o hop hoi' a w
    rw [Nat.zero_add] at hob
    have hnew : ∀ w', Stay (Wr i) w w' → Stay (fun b => ∃ j, on (listed.setIfInBounds i true) j ∧ Wr j b) w0 w' := fun w' hw' => (stay_weak h.w (fun b ⟨j, hj, hb⟩ => ⟨j, hup j hj, hb⟩)).trans (stay_weak hw' (fun b hb => ⟨i, hself, hb⟩))
    refine .inl (hob _ (stay_weak h.w (fun b ⟨j, hj, hb⟩ => ⟨j, fun e => hli (e ▸ hj), hb⟩)) (fun e he hb => h.vs _ (hdeps e he hb)) hks ?_)
    cases hs : isS i with
    | true =>
      rw [if_pos rfl]
      intro w' hsp hst
      refine ⟨by simpa using h.ls, h.sz, h.df, fun j hj => ?_, fun q hq => h.ks q fun j hj hsj => hq j (hup j hj) hsj, hdn, hnew w' hst⟩
      rcases hset j hj with rfl | hj'
      · unfold valY; rw [if_pos hs]; exact hsp
      · exact mono j i _ _ _ (fun e => hli (e ▸ hj')) (hed j hj') hst (h.vs j hj')
    | false =>
      rw [if_neg (by simp)]
      obtain ⟨e1, e3, e4⟩ := E.plain i o hs hoi
      intro v w' hsp hst
      have hgp : ∀ q, (a.put (some (d i)) v).tmps.getD q undef = if q = d i then v else a.tmps.getD q undef := fun q => by
        simp only [Act.put, Array.getD_eq_getD_getElem?]
        by_cases hkd : q = d i
        · subst hkd; rw [if_pos rfl, Array.getElem?_setIfInBounds_self_of_lt (by rw [h.sz]; exact e3)]; rfl
        · rw [if_neg hkd, Array.getElem?_setIfInBounds_ne (Ne.symm hkd)]
      refine ⟨by simpa using h.ls, by simpa [Act.put] using h.sz, by simpa [Act.put] using h.df, fun j hj => ?_, fun q hq => ?_, hdn, hnew w' hst⟩
      · rcases hset j hj with rfl | hj'
        · unfold valY; rw [if_neg (by rw [hs]; simp), hgp, if_pos rfl]; exact hsp
        · have hji : j ≠ i := fun e => hli (e ▸ hj')
          have hm := mono j i _ _ _ hji (hed j hj') hst (h.vs j hj')
          have hv : valY d isS (a.put (some (d i)) v) j = valY d isS a j := by
            unfold valY
            cases hsj : isS j with
            | true => rfl
            | false => rw [if_neg (by simp), if_neg (by simp), hgp, if_neg (fun q => e4 j (hlt j hj') hsj (Ne.symm hji) q.symm)]
          rw [hv]; exact hm
      · rw [hgp, if_neg (fun e => hq i hself hs e.symm)]
        exact h.ks q fun j hj hsj => hq j (hup j hj) hsj
  · intro listed a w h hr
    have hl := all_listed E.order listed hr h.ls
    refine hend a w (fun i hi => h.vs i (hl i (by omega))) (fun q hq => h.ks q fun j hj hs => ?_) h.sz h.df (stay_weak h.w (fun b ⟨j, _, hb⟩ => ⟨j, hb⟩))
    unfold outY at hq
    rw [List.all_eq_true] at hq
    have hjl : j < l.toArray.size := by
      rw [← h.ls]
      rcases Nat.lt_or_ge j listed.size with q | q
      · exact q
      · unfold on at hj; simp [Array.getElem?_eq_none q] at hj
    have := hq j (List.mem_range.2 hjl)
    simp only [Bool.or_eq_true, decide_eq_true_eq] at this
    rcases this with q | q
    · rw [hs] at q; cases q
    · exact q
  · unfold left
    exact Nat.le_trans (List.countP_le_length) (by simp)
  · have hf : ∀ i, on (Array.replicate l.toArray.size false) i → False := fun i hi => by
      unfold on at hi
      simp only [Array.getD_eq_getD_getElem?, Array.getElem?_replicate] at hi
      split at hi <;> simp at hi
    exact ⟨by simp, rfl, rfl, fun i hi => (hf i hi).elim, fun k _ => rfl, fun j _ hj => (hf j hj).elim, ⟨rfl, rfl, rfl, Nat.le_refl _, fun _ _ _ => rfl⟩⟩
end
end Go.Proofs.Ytplgaenfcaphnaa.MacP

/- Layer 16 (tree): sixteen numbers as an array; two pairs the same; the root port, as the program looks for it. -/
namespace Go.Proofs.Ytplgaenfcaphnaa.LanP
open Go.RowKit Go.Sort Go.Proofs.Ytplgaenfcaphnaa.SliceP Go.Proofs.Ytplgaenfcaphnaa.BoxP
open Go.Proofs.Ytplgaenfcaphnaa.VecP (V okV okV_iff)
set_option linter.unusedVariables false
set_option maxRecDepth 100000
def A16 (f : Nat → Int) : Array Value := #[.int .i64 (f 0), .int .i64 (f 1), .int .i64 (f 2), .int .i64 (f 3), .int .i64 (f 4), .int .i64 (f 5), .int .i64 (f 6), .int .i64 (f 7), .int .i64 (f 8), .int .i64 (f 9), .int .i64 (f 10), .int .i64 (f 11), .int .i64 (f 12), .int .i64 (f 13), .int .i64 (f 14), .int .i64 (f 15)]
theorem A16_get (f : Nat → Int) {k : Nat} (hk : k < 16) : (A16 f)[k]? = some (.int .i64 (f k)) := by
  match k, hk with
  | 0, _ => rfl
  | 1, _ => rfl
  | 2, _ => rfl
  | 3, _ => rfl
  | 4, _ => rfl
  | 5, _ => rfl
  | 6, _ => rfl
  | 7, _ => rfl
  | 8, _ => rfl
  | 9, _ => rfl
  | 10, _ => rfl
  | 11, _ => rfl
  | 12, _ => rfl
  | 13, _ => rfl
  | 14, _ => rfl
  | 15, _ => rfl
  | k + 16, h => exact absurd h (by omega)
theorem A16_set (f : Nat → Int) {k : Nat} (hk : k < 16) (v : Int) : (A16 f).setIfInBounds k (.int .i64 v) = A16 (upd f k v) := by
  match k, hk with
  | 0, _ => rfl
  | 1, _ => rfl
  | 2, _ => rfl
  | 3, _ => rfl
  | 4, _ => rfl
  | 5, _ => rfl
  | 6, _ => rfl
  | 7, _ => rfl
  | 8, _ => rfl
  | 9, _ => rfl
  | 10, _ => rfl
  | 11, _ => rfl
  | 12, _ => rfl
  | 13, _ => rfl
  | 14, _ => rfl
  | 15, _ => rfl
  | k + 16, h => exact absurd h (by omega)
def owF (l : L) (n i : Nat) : Int := if i / 2 < n then (if i % 2 = 0 then (ow l ((i / 2 : Nat) : Int)).1 else (ow l ((i / 2 : Nat) : Int)).2) else 0
theorem owF_at {l : L} {n s : Nat} (h : s < n) : owF l n (s * 2) = (ow l s).1 ∧ owF l n (s * 2 + 1) = (ow l s).2 := by
  have e1 : s * 2 / 2 = s := by omega
  have e2 : (s * 2 + 1) / 2 = s := by omega
  unfold owF
  rw [e1, e2, if_pos h, if_pos h, if_pos (by omega), if_neg (by omega)]
  exact ⟨rfl, rfl⟩
theorem owF_succ (l : L) (n : Nat) : upd (upd (owF l n) (n * 2) (ow l n).1) (n * 2 + 1) (ow l n).2 = owF l (n + 1) := by
  funext i
  unfold upd
  by_cases h1 : i = n * 2 + 1
  · subst h1; rw [if_pos rfl, (owF_at (Nat.lt_succ_self n)).2]
  · rw [if_neg h1]
    by_cases h2 : i = n * 2
    · subst h2; rw [if_pos rfl, (owF_at (Nat.lt_succ_self n)).1]
    · rw [if_neg h2]
      unfold owF
      by_cases h3 : i / 2 < n
      · rw [if_pos h3]
        conv => rhs; rw [if_pos (show i / 2 < n + 1 by omega)]
      · rw [if_neg h3]
        conv => rhs; rw [if_neg (show ¬ i / 2 < n + 1 by omega)]
theorem owF_zero (l : L) : A16 (owF l 0) = #[.int .i64 0, .int .i64 0, .int .i64 0, .int .i64 0, .int .i64 0, .int .i64 0, .int .i64 0, .int .i64 0, .int .i64 0, .int .i64 0, .int .i64 0, .int .i64 0, .int .i64 0, .int .i64 0, .int .i64 0, .int .i64 0] := rfl
theorem eq_pair (a b c d : Int) (w : World) : (Op.equalIn 10000 33 (.agg #[.int .i64 a, .int .i64 b]) (.agg #[.int .i64 c, .int .i64 d])).run Try.prog w = .ok (decide (a = c) && decide (b = d)) w := by
  have h : ∀ x y W, (Op.equalIn 9999 3 (.int .i64 x) (.int .i64 y)).run Try.prog W = .ok (decide (x = y)) W := fun x y W => by
    by_cases e : x = y
    · subst e; go_simp
    · go_simp
  show (Op.equalIn (9998 + 1 + 1) _ _ _).run _ _ = _
  rw [Op.equalIn]
  have hr : List.range' 0 2 = [0, 1] := rfl
  by_cases e1 : a = c
  · subst e1
    by_cases e2 : b = d
    · subst e2; simp [run_underlying und_arr, h, part, go_sem, hr]
    · simp [run_underlying und_arr, h, part, go_sem, hr, e2]
  · simp [run_underlying und_arr, h, part, go_sem, hr, e1]
theorem eql_pair (a b c d : Int) (w : World) : (binOp .eql 33 (.agg #[.int .i64 a, .int .i64 b]) (.agg #[.int .i64 c, .int .i64 d])).run Try.prog w = .ok (.bool (decide (a = c) && decide (b = d))) w := by
  go_simp
  rw [eq_pair]; rfl
/-- The root port, as the program looks for it. -/
def fitR (l : L) (b k : Nat) : Bool := (prt l b k).up && (decide ((l.best b).1 = (wayT l b k).1) && decide ((l.best b).2 = (wayT l b k).2.1))
theorem fit_ok {l : L} (h : l.ok = true) {b k : Nat} (hb : b < l.plans.length) (hk : k < (pl l b).ports.length) (hr : (l.best b).1 ≠ (pl l b).id) : fitR l b k = okR l b k := by
  unfold fitR okR
  cases hu : (prt l b k).up with
  | false => rfl
  | true =>
    obtain ⟨q, hq⟩ := own_some (l := l) (s := (prt l b k).seg) (p := (b, k)) (mem_onS.2 ⟨hb, hk, hu, rfl⟩)
    rw [hq]
    have e : wayT l b k = ((l.best q.1).1, (l.best q.1).2 + (prt l b k).cost, (pl l q.1).id, (q.2 : Int)) := by unfold wayT; rw [hq]
    have hc := (ok_lk h _ (pl_mem hb) _ (prt_mem hk)).2.2.1
    rw [Bool.eq_iff_iff]
    simp only [Bool.true_and, Bool.and_eq_true, decide_eq_true_eq, bne_iff_ne, beq_iff_eq]
    constructor
    · rintro ⟨h1, h2⟩
      refine ⟨fun e2 => ?_, h1.symm, h2.symm⟩
      rw [e] at h2
      rw [e2] at h2
      simp only at h2
      omega
    · rintro ⟨_, h1, h2⟩
      exact ⟨h1.symm, h2.symm⟩
theorem fit_none {l : L} (h : l.ok = true) {b k : Nat} (hb : b < l.plans.length) (hk : k < (pl l b).ports.length) (hr : (l.best b).1 = (pl l b).id) : fitR l b k = false := by
  unfold fitR
  cases hu : (prt l b k).up with
  | false => rfl
  | true =>
    obtain ⟨q, hq⟩ := own_some (l := l) (s := (prt l b k).seg) (p := (b, k)) (mem_onS.2 ⟨hb, hk, hu, rfl⟩)
    have e : wayT l b k = ((l.best q.1).1, (l.best q.1).2 + (prt l b k).cost, (pl l q.1).id, (q.2 : Int)) := by unfold wayT; rw [hq]
    have hc := (ok_lk h _ (pl_mem hb) _ (prt_mem hk)).2.2.1
    have hz := (best_zero (ok_fine h).cost hb).2 hr
    have hn := best_bd h (mem_onS.1 (own_mem hq)).1
    have : ¬ (l.best b).2 = (wayT l b k).2.1 := by rw [e, hz]; simp only; omega
    simp [this]
def fitsTo (l : L) (b m : Nat) : List Nat := (List.range m).filter (fitR l b)
theorem fits_succ (l : L) (b m : Nat) : fitsTo l b (m + 1) = fitsTo l b m ++ if fitR l b m = true then [m] else [] := by
  unfold fitsTo; rw [List.range_succ, List.filter_append]; congr 1; simp only [List.filter_cons, List.filter_nil]
theorem fits_len (l : L) (b m : Nat) : (fitsTo l b m).length ≤ m := by
  have := List.length_filter_le (fitR l b) (List.range m)
  rw [List.length_range] at this
  exact this
theorem rootT_fits {l : L} (h : l.ok = true) {b : Nat} (hb : b < l.plans.length) : rootT l b = firstMin (wayT l b) (fitsTo l b (pl l b).ports.length) none := by
  unfold rootT fitsTo
  split
  · rename_i hr
    have : (List.range (pl l b).ports.length).filter (fitR l b) = [] := by
      rw [List.filter_eq_nil_iff]
      intro k hk
      rw [fit_none h hb (List.mem_range.1 hk) hr]; simp
    rw [this]; rfl
  · rename_i hr
    congr 1
    exact List.filter_congr fun k hk => (fit_ok h hb (List.mem_range.1 hk) hr).symm
def rootN (l : L) (b : Nat) : Int := match rootT l b with | some k => (k : Int) | none => -1
theorem way_ok {l : L} (h : l.ok = true) {b k : Nat} (hb : b < l.plans.length) (hk : k < (pl l b).ports.length) (hf : fitR l b k = true) : (vt (wayT l b k)).ok = true := by
  unfold fitR at hf
  rw [Bool.and_eq_true] at hf
  obtain ⟨q, hq⟩ := own_some (l := l) (s := (prt l b k).seg) (p := (b, k)) (mem_onS.2 ⟨hb, hk, hf.1, rfl⟩)
  have e : wayT l b k = ((l.best q.1).1, (l.best q.1).2 + (prt l b k).cost, (pl l q.1).id, (q.2 : Int)) := by unfold wayT; rw [hq]
  have m := mem_onS.1 (own_mem hq)
  have t := (okV_iff _ _ _ _).1 (told_ok h m.1 m.2.1)
  have bd := best_bd h m.1
  have hc := (ok_lk h _ (pl_mem hb) _ (prt_mem hk)).2.2
  rw [e]
  unfold told vt at t
  simp only at t
  refine (okV_iff _ _ _ _).2 ⟨t.1, t.2.1, t.2.2.1, t.2.2.2.1, ?_, ?_, t.2.2.2.2.2.2.1, t.2.2.2.2.2.2.2⟩
  · show 0 ≤ (l.best q.1).2 + (prt l b k).cost; omega
  · show (l.best q.1).2 + (prt l b k).cost < 2147483648; omega
end Go.Proofs.Ytplgaenfcaphnaa.LanP

/-
  Contract of tree's rootPort.
-/
namespace Go.Proofs.Ytplgaenfcaphnaa.LanP
open Go.Proofs.Ytplgaenfcaphnaa.VecP (V okV SlV bestI bestI_lt best_none best_good far_good inB)
open Go.Proofs.Ytplgaenfcaphnaa.MacP (wp_region_stay valY outY stay_weak)
open Go.RowKit Go.Sort Go.Proofs.Ytplgaenfcaphnaa.SliceP Go.Proofs.Ytplgaenfcaphnaa.BoxP
open Go.Proofs.Ytplgaenfcaphnaa.IntP (RowI SlI OwnI)
open Go.Proofs.Ytplgaenfcaphnaa.BoolP (RowB SlB OwnB)
open Go.Proofs.Ytplgaenfcaphnaa.MacP (arr_out)
set_option linter.unusedVariables false
set_option maxRecDepth 100000
theorem own_ne {w : World} {B B' : Nat} {e e' : TypeId} {sz sz' : Nat} {v v' : Value} {xs ys : List (List Value)} (h : Own w B e sz v xs) (h' : Own w B' e' sz' v' ys) (hne : e ≠ e') : ∀ k, v.ownBlock = some k → v'.ownBlock ≠ some k := fun k hk hk' => by
  rcases h.row.2 with ⟨h1, _⟩ | ⟨g, c, cur, h1, _, h2, _⟩
  · rw [h1] at hk; cases hk
  · rcases h'.row.2 with ⟨h3, _⟩ | ⟨g', c', cur', h3, _, h4, _⟩
    · rw [h3] at hk'; cases hk'
    · rw [h1] at hk
      rw [h3] at hk'
      have e1 : g = k := Option.some.inj hk
      have e2 : g' = k := Option.some.inj hk'
      rw [e1] at h2
      rw [e2, h2] at h4
      injection h4 with h4
      injection h4 with _ h4 _
      exact hne h4
/-- A slice of one new element. -/
def NewR (w0 : World) (T : TypeId) (vals : Array Value) (v : Value) (W : World) : Prop := ∃ g, v = .slice (some ⟨g, 0, none⟩) 1 1 ∧ w0.heap.size ≤ g ∧ Bx W g T vals
/-- What append made of a row. -/
def AppR (w0 : World) (B : Nat) (e : TypeId) (sz : Nat) (ob : Option Nat) (xs : List (List Value)) (v : Value) (W : World) : Prop := Own W B e sz v xs ∧ (v.ownBlock = ob ∨ ∃ g, v.ownBlock = some g ∧ w0.heap.size ≤ g)
theorem NewR.stay {w0 W W' : World} {T : TypeId} {vals : Array Value} {v : Value} {ob : Option Nat} (h : NewR w0 T vals v W) (hst : Stay (fun k => ob = some k) W W') (hb : ∀ k, ob = some k → k < w0.heap.size) : NewR w0 T vals v W' := by
  obtain ⟨g, h1, h2, h3⟩ := h
  exact ⟨g, h1, h2, hst.bx h3 (fun e => by have := hb g e; omega)⟩
theorem AppR.stay {w0 W W' : World} {B : Nat} {e : TypeId} {sz : Nat} {ob ob2 : Option Nat} {xs : List (List Value)} {v : Value} (h : AppR w0 B e sz ob xs v W) (hst : Stay (fun k => ob2 = some k) W W') (hb : ∀ k, ob2 = some k → k < w0.heap.size) (hne : ∀ k, ob = some k → ob2 = some k → False) : AppR w0 B e sz ob xs v W' := by
  obtain ⟨h1, h2⟩ := h
  refine ⟨own_stay h1 hst (fun k hk e => ?_), h2⟩
  rcases h2 with h2 | ⟨g, h2, h3⟩
  · exact hne k (h2.symm.trans hk) e
  · have := hb k e
    rw [hk] at h2
    have := Option.some.inj h2
    omega
set_option maxHeartbeats 16000000 in
theorem o_rootport {l : L} {A : Option Addr} {c : Nat} {B : Option Addr} {d : Nat} {w : World} {C : Option Addr} {e : Nat} (hr : LanR w l A c B d) (hs : Small l) (ho : l.ok = true) (hI : Row hc 2 w C l.bs.length e l.bs) {b : Nat} (hb : b < l.plans.length) :
    Calls Try.prog 48 #[lv l A c B d, .slice C l.bs.length e, .agg (A16 (owF l l.n)), .int .i64 b] w fun en w' => en = .returned (.int .i64 (rootN l b)) ∧ Below w.heap.size w w' := by
  have HL := Lib.hid hr
  have H := Lib.hid hr.plans
  have HS := Lib.hid hs
  have HO := Lib.hid ho
  have HI := Lib.hid hI
  have HB := Lib.hid hb
  have hn8 := hs.plans
  have hn9 : l.bs.length ≤ 8 := by rw [bs_len]; omega
  have hbl : (b : Int) < (l.plans.length : Int) := by omega
  have hbl2 : (b : Int) < (l.bs.length : Int) := by rw [bs_len]; omega
  have hpb := plan_get hb
  have hbb := bs_get hb
  obtain ⟨p, hp⟩ : ∃ p, pl l b = p := ⟨_, rfl⟩
  rw [hp] at hpb
  have hpm := Lib.hid (show p ∈ l.plans from List.mem_of_getElem? hpb)
  have hpl := HS.out.ports p hpm.out
  obtain ⟨bI, oI, hCC, hbI, r0, r1⟩ := Row.hat HI.out hbb
  subst hCC
  obtain ⟨bv, hbv⟩ : ∃ v, l.best b = v := ⟨_, rfl⟩
  rw [hbv] at r0 r1
  replace hbI := Lib.hid hbI
  replace r0 := Lib.hid r0
  replace r1 := Lib.hid r1
  replace hbv := Lib.hid hbv
  replace hp := Lib.hid hp
  clear hbb
  clear hr hs ho hI hb
  obtain ⟨w0, hw0⟩ : ∃ W, W = w.alloc (.cells #[.int .i64 l.segs, .slice A l.plans.length c, .slice B l.hosts.length d] 25) := ⟨_, rfl⟩
  have hs0 : w0.heap.size = w.heap.size + 1 := by rw [hw0]; simp
  have bb0 : Below w.heap.size w w0 := by rw [hw0]; exact (Below.refl _ _).alloc (Nat.le_refl _) _
  have XX0 : Bx w0 w.heap.size 25 #[.int .i64 l.segs, .slice A l.plans.length c, .slice B l.hosts.length d] := by rw [hw0]; exact Bx.new _ _ _ (by rfl)
  obtain ⟨g1, hg1⟩ : ∃ g, g = w.heap.size + 1 := ⟨_, rfl⟩
  obtain ⟨w1, hw1⟩ : ∃ W, W = w0.alloc (.cells (A16 (owF l l.n)) 98) := ⟨_, rfl⟩
  have hs1 : w1.heap.size = g1 + 1 := by rw [hw1]; simp; omega
  have bb1 : Below w0.heap.size w0 w1 := by rw [hw1]; exact (Below.refl _ _).alloc (Nat.le_refl _) _
  have XX1 : Bx w1 g1 98 (A16 (owF l l.n)) := by rw [hw1]; exact Bx.new _ _ _ (by omega)
  have X0 := Lib.hid (show Bx w1 w.heap.size 25 #[.int .i64 l.segs, .slice A l.plans.length c, .slice B l.hosts.length d] from (XX0.below bb1))
  have X1 := Lib.hid (show Bx w1 g1 98 (A16 (owF l l.n)) from XX1)
  have B1 := Lib.hid (show Below w.heap.size w w1 from (bt bb0 bb1))
  have hgt := Lib.hid (show w.heap.size < g1 from by omega)
  have hsz := Lib.hid (show w1.heap.size = g1 + 1 from hs1)
  clear hs0 bb0 XX0 hs1 bb1 XX1
  go_enter Try.func48, Try.ntmps48
  go_upto_region 3 with fail
  rw [← hw0, ← hw1, ← hg1]
  clear hw0 hw1 hg1
  obtain ⟨bP, oP, A2, c2, hAA, hbP, p0, p1, hrow⟩ := RowP.at_ (H.out.below B1.out) hpb
  subst hAA
  have HR := Lib.hid hrow
  replace hpb := Lib.hid hpb
  have x1 := X0.out.c (i := 1) rfl
  have zx := X0.out.lt
  go_wp2_with fail
  clear hrow p0 p1 hbP x1 zx
  obtain ⟨bz, hbz0⟩ : ∃ b, b = w1.heap.size := ⟨_, rfl⟩
  have hg2 := Lib.hid (show w.heap.size < bz ∧ g1 < bz by rw [hbz0]; have := hgt.out; have := hsz.out; omega)
  replace hbz0 := Lib.hid hbz0
  go_loopw [9, 10, 24] (fun v9 v10 i wr => ∃ j : Nat, j ≤ p.ports.length ∧ i = .int .i64 j ∧ Own wr bz 3 1 v9 (((fitsTo l b j).map Int.ofNat).map ic) ∧ Own wr bz 103 4 v10 (((fitsTo l b j).map (wayT l b)).map vcl) ∧ (∀ k, v9.ownBlock = some k → v10.ownBlock ≠ some k) ∧ bz ≤ wr.heap.size ∧ Bx wr w.heap.size 25 (lc l (some ⟨bP, oP, none⟩) c B d) ∧ Bx wr g1 98 (A16 (owF l l.n)) ∧ Below w1.heap.size w1 wr) (fun _ _ i _ => p.ports.length - (intOf i).toNat)
  case atStart => exact ⟨0, by omega, rfl, Own.nil _ _ _ _, Own.nil _ _ _ _, (fun k h => by cases h), by rw [hbz0.out]; exact Nat.le_refl _, X0.out, X1.out, Below.refl _ _⟩
  case round =>
    clear X0 X1
    obtain ⟨j, hj, rfl, ho9, ho10, hne, hsz2, hX, hY, hb⟩ := hrel
    obtain ⟨A9, c9, hv9⟩ := own_form ho9
    obtain ⟨A10, c10, hv10⟩ := own_form ho10
    subst hv9 hv10
    obtain ⟨wo, hwo⟩ : ∃ W, W = wr := ⟨_, rfl⟩
    subst hwo
    simp only [List.length_map] at ho9 ho10 hne ⊢
    have hfl := fits_len l b j
    have hs1 := fits_succ l b j
    obtain ⟨K, hK⟩ : ∃ K, fitsTo l b j = K := ⟨_, rfl⟩
    rw [hK] at ho9 ho10 hne hfl hs1 ⊢
    replace hK := Lib.hid hK
    by_cases hjn : j < p.ports.length
    · have hjl : (j : Int) < (p.ports.length : Int) := by omega
      have hKl := Lib.hid (show K.length ≤ 1000 by omega)
      obtain ⟨y, hy⟩ : ∃ y, p.ports[j]? = some y := ⟨_, List.getElem?_eq_getElem hjn⟩
      obtain ⟨bS8, oS8, hAS8, hbS8, q8_0, q8_1, q8_2⟩ := Row.kat (HR.out.below hb) hy
      subst hAS8
      obtain ⟨w8, hw8⟩ : ∃ W, W = wo.alloc (.cells #[.int .i64 y.seg, .int .i64 y.cost, .bool y.up] 63) := ⟨_, rfl⟩
      have bb8 : Below wo.heap.size wo w8 := by rw [hw8]; exact (Below.refl _ _).alloc (Nat.le_refl _) _
      have b8 := Lib.hid (bt hb bb8)
      have X8 := Lib.hid (show Bx w8 wo.heap.size 63 #[.int .i64 y.seg, .int .i64 y.cost, .bool y.up] by rw [hw8]; exact Bx.new _ _ _ rfl)
      have hyo := Lib.hid (ok_lk HO.out p hpm.out y (List.mem_of_getElem? hy))
      have hpy := Lib.hid (show prt l b j = y by have h9 := ports_get (l := l) (b := b) (k := j) (by rw [hp.out]; exact hjn); rw [hp.out, hy] at h9; exact (Option.some.inj h9).symm)
      have o98 := Lib.hid (ho9.below bb8)
      have o108 := Lib.hid (ho10.below bb8)
      have X8l := Lib.hid (hX.below bb8)
      have Y8l := Lib.hid (hY.below bb8)
      have hsz8 := Lib.hid (Nat.le_trans hsz2 bb8.size)
      replace hne := Lib.hid hne
      replace hs1 := Lib.hid hs1
      clear ho9 ho10 hX hY hsz2
      replace hy := Lib.hid hy
      clear hb bb8
      go_upto_region 6 with fail
      rw [← hw8]
      clear hw8 q8_0 q8_1 q8_2 hbS8
      have o8_0 := X8.out.c (i := 0) rfl
      have o8_1 := X8.out.c (i := 1) rfl
      have o8_2 := X8.out.c (i := 2) rfl
      have zz8 := X8.out.lt
      cases hup : y.up
      · have hf : fitR l b j = false := by unfold fitR; rw [hpy.out, hup]; rfl
        rw [hup] at o8_2
        replace hup := Lib.hid hup
        have hs2 := Lib.hid (show fitsTo l b (j + 1) = K by rw [hs1.out, if_neg (by rw [hf]; simp), List.append_nil])
        replace hf := Lib.hid hf
        go_wp2_with fail
        go_roundw
        case rel => exact ⟨j + 1, by omega, by go_num, by rw [hs2.out]; exact o98.out, by rw [hs2.out]; exact o108.out, hne.out, hsz8.out, X8l.out, Y8l.out, b8.out⟩
        case measure => simp [intOf]; omega
      · rw [hup] at o8_2
        obtain ⟨q, hq⟩ := own_some (l := l) (s := y.seg) (p := (b, j)) (mem_onS.2 ⟨HB.out, by show j < (pl l b).ports.length; rw [hp.out]; exact hjn, by show (prt l b j).up = true; rw [hpy.out]; exact hup, by show (prt l b j).seg = y.seg; rw [hpy.out]⟩)
        replace hup := Lib.hid hup
        have hqm := mem_onS.1 (own_mem hq)
        obtain ⟨sN, hsN⟩ : ∃ n : Nat, y.seg = n := ⟨y.seg.toNat, by have := hyo.out; omega⟩
        have hsg := ok_segs HO.out
        have hsl : sN < l.n := by have := hyo.out; omega
        have hs8 : (sN : Int) < 8 := by omega
        have hsl8 : sN * 2 < 16 ∧ sN * 2 + 1 < 16 := by omega
        have howq : ow l (sN : Int) = nz q := ow_some (by rw [← hsN]; exact hq)
        obtain ⟨f0, f1⟩ := owF_at (l := l) hsl
        rw [howq] at f0 f1
        have a0 := A16_get (owF l l.n) hsl8.1
        have a1 := A16_get (owF l l.n) hsl8.2
        rw [f0] at a0
        rw [f1] at a1
        unfold nz at a0 a1
        simp only at a0 a1
        have cy0 := Lib.hid (Y8l.out.c a0)
        have cy1 := Lib.hid (Y8l.out.c a1)
        have hyl := Lib.hid Y8l.out.lt
        rw [hsN] at o8_0
        have hwt := Lib.hid (show wayT l b j = ((l.best q.1).1, (l.best q.1).2 + y.cost, (pl l q.1).id, (q.2 : Int)) by unfold wayT; rw [hpy.out, hq])
        have hTL := Lib.hid (fun (W : World) (hW : Below w8.heap.size w8 W) => o_tells (HL.out.below (bt B1.out (bt b8.out hW))) HS.out (HI.out.below (bt B1.out (bt b8.out hW))) (q := q) hqm.1)
        have hcq := best_bd HO.out hqm.1
        have hFr := Lib.hid (fun (W : World) => far_good (told l q).1 (told l q).2.1 (told l q).2.2.1 (told l q).2.2.2 y.cost W (told_ok HO.out hqm.1 hqm.2.1) (by unfold VecP.inB; simp; have := hyo.out; omega))
        have hmin : min ((told l q).2.1 + y.cost) 2147483647 = (told l q).2.1 + y.cost := by show min ((l.best q.1).2 + y.cost) 2147483647 = (l.best q.1).2 + y.cost; have := hyo.out; omega
        rw [hmin] at hFr
        obtain ⟨t, ht⟩ : ∃ t, wayT l b j = t := ⟨_, rfl⟩
        obtain ⟨tq, htq⟩ : ∃ t, told l q = t := ⟨_, rfl⟩
        have htt := Lib.hid (show t = (tq.1, tq.2.1 + y.cost, tq.2.2.1, tq.2.2.2) by rw [← ht, ← htq]; exact hwt.out)
        rw [htq] at hTL hFr
        replace hq := Lib.hid hq
        replace howq := Lib.hid howq
        replace ht := Lib.hid ht
        replace htq := Lib.hid htq
        clear a0 a1 f0 f1 hmin hcq hsg
        replace hqm := Lib.hid hqm
        have X8s := Lib.hid (show Bx w8 wo.heap.size 63 #[.int .i64 (sN : Int), .int .i64 y.cost, .bool y.up] by rw [← hsN]; exact X8.out)
        replace hsN := Lib.hid hsN
        go_upto_region 7 with fail
        clear o8_1 o8_2
        refine Go.Proofs.Ytplgaenfcaphnaa.MacP.wp_region_box (by kernel_rfl) (fun ix => match ix with | 0 => 33 | 1 => 34 | 2 => 35 | 3 => 36 | 4 => 37 | 5 => 38 | 6 => 39 | 7 => 40 | 8 => 41 | 9 => 42 | 10 => 32 | 11 => 43 | 12 => 44 | 13 => 13 | 15 => 14 | _ => 0) (fun ix => match ix with | 13 => some 0 | _ => none) (fun ix => match ix with | 14 => some 0 | _ => none) (fun _ => 13) (fun _ => 14) 1 (by kernel_rfl) (fun _ => 103) (fun _ => #[.int .i64 0, .int .i64 0, .int .i64 0, .int .i64 0]) (fun _ => #[.int .i64 tq.1, .int .i64 (tq.2.1 + y.cost), .int .i64 tq.2.2.1, .int .i64 tq.2.2.2]) (fun ix v => match ix with | 0 => v = .agg #[.int .i64 l.segs, .slice (some ⟨bP, oP, none⟩) l.plans.length c, .slice B l.hosts.length d] | 1 => v = .slice (some ⟨bI, oI, none⟩) l.bs.length e | 2 => v = .pointer (some ⟨wo.heap.size, 0, none⟩) | 3 => v = .int .i64 (sN : Int) | 4 => v = .pointer (some ⟨g1, sN * 2, none⟩) | 5 => v = .agg #[.int .i64 q.1, .int .i64 q.2] | 6 => v = .agg #[.int .i64 tq.1, .int .i64 tq.2.1, .int .i64 tq.2.2.1, .int .i64 tq.2.2.2] | 7 => v = .pointer (some ⟨wo.heap.size, 1, none⟩) | 8 => v = .int .i64 y.cost | 9 => v = .tuple #[.agg #[.int .i64 tq.1, .int .i64 (tq.2.1 + y.cost), .int .i64 tq.2.2.1, .int .i64 tq.2.2.2], .int .i64 0] | 10 => v = .tuple #[.agg #[.int .i64 tq.1, .int .i64 (tq.2.1 + y.cost), .int .i64 tq.2.2.1, .int .i64 tq.2.2.2], .int .i64 0] | 11 => v = .agg #[.int .i64 tq.1, .int .i64 (tq.2.1 + y.cost), .int .i64 tq.2.2.1, .int .i64 tq.2.2.2] | 12 => v = .int .i64 0 | 15 => v = .int .i64 0 | _ => True) ?_ ?_
        · refine ⟨?_, ?_, ?_, ?_, ?_, ?_, ?_, ?_, ?_, ?_, ?_, ?_, ?_, ?_, ?_, ?_, trivial⟩
          · as_aux_lemma =>
              intro a W2 K hb hdep hk hK
              replace hK : ∀ v w', v = .agg #[.int .i64 l.segs, .slice (some ⟨bP, oP, none⟩) l.plans.length c, .slice B l.hosts.length d] → Below W2.heap.size W2 w' → K (a.put (some 33) v) w' := hK
              have d4 : a.tmps.getD 4 undef = .pointer (some ⟨w.heap.size, 0, none⟩) := hk 4 (by kernel_rfl)
              have q4 : a.tmps[4]?.getD undef = .pointer (some ⟨w.heap.size, 0, none⟩) := by simpa [Array.getD_eq_getD_getElem?] using d4
              clear d4
              have x0 := (X8l.out.below hb).c (i := 0) rfl
              have x1 := (X8l.out.below hb).c (i := 1) rfl
              have x2 := (X8l.out.below hb).c (i := 2) rfl
              clear hb hdep hk
              go_simp
              exact hK _ _ rfl (Below.refl _ _)
          · as_aux_lemma =>
              intro a W2 K hb hdep hk hK
              replace hK : ∀ v w', v = .slice (some ⟨bI, oI, none⟩) l.bs.length e → Below W2.heap.size W2 w' → K (a.put (some 34) v) w' := hK
              have d1 : a.tmps.getD 1 undef = .slice (some ⟨bI, oI, none⟩) l.bs.length e := hk 1 (by kernel_rfl)
              have q1 : a.tmps[1]?.getD undef = .slice (some ⟨bI, oI, none⟩) l.bs.length e := by simpa [Array.getD_eq_getD_getElem?] using d1
              clear d1
              clear hb hdep hk
              go_simp
              exact hK _ _ rfl (Below.refl _ _)
          · as_aux_lemma =>
              intro a W2 K hb hdep hk hK
              replace hK : ∀ v w', v = .pointer (some ⟨wo.heap.size, 0, none⟩) → Below W2.heap.size W2 w' → K (a.put (some 35) v) w' := hK
              have d12 : a.tmps.getD 12 undef = .pointer (some ⟨wo.heap.size, 0, none⟩) := hk 12 (by kernel_rfl)
              have q12 : a.tmps[12]?.getD undef = .pointer (some ⟨wo.heap.size, 0, none⟩) := by simpa [Array.getD_eq_getD_getElem?] using d12
              clear d12
              clear hb hdep hk
              go_simp
              exact hK _ _ rfl (Below.refl _ _)
          · as_aux_lemma =>
              intro a W2 K hb hdep hk hK
              replace hK : ∀ v w', v = .int .i64 (sN : Int) → Below W2.heap.size W2 w' → K (a.put (some 36) v) w' := hK
              have d35 : a.tmps.getD 35 undef = .pointer (some ⟨wo.heap.size, 0, none⟩) := hdep ⟨2, .data⟩ (by simp) rfl rfl rfl
              have q35 : a.tmps[35]?.getD undef = .pointer (some ⟨wo.heap.size, 0, none⟩) := by simpa [Array.getD_eq_getD_getElem?] using d35
              clear d35
              have s0 := (X8s.out.below hb).c (i := 0) rfl
              clear hb hdep hk
              go_simp
              exact hK _ _ rfl (Below.refl _ _)
          · as_aux_lemma =>
              intro a W2 K hb hdep hk hK
              replace hK : ∀ v w', v = .pointer (some ⟨g1, sN * 2, none⟩) → Below W2.heap.size W2 w' → K (a.put (some 37) v) w' := hK
              have d6 : a.tmps.getD 6 undef = .pointer (some ⟨g1, 0, none⟩) := hk 6 (by kernel_rfl)
              have d36 : a.tmps.getD 36 undef = .int .i64 (sN : Int) := hdep ⟨3, .data⟩ (by simp) rfl rfl rfl
              have q6 : a.tmps[6]?.getD undef = .pointer (some ⟨g1, 0, none⟩) := by simpa [Array.getD_eq_getD_getElem?] using d6
              clear d6
              have q36 : a.tmps[36]?.getD undef = .int .i64 (sN : Int) := by simpa [Array.getD_eq_getD_getElem?] using d36
              clear d36
              clear hb hdep hk
              go_simp
              exact hK _ _ rfl (Below.refl _ _)
          · as_aux_lemma =>
              intro a W2 K hb hdep hk hK
              replace hK : ∀ v w', v = .agg #[.int .i64 q.1, .int .i64 q.2] → Below W2.heap.size W2 w' → K (a.put (some 38) v) w' := hK
              have d37 : a.tmps.getD 37 undef = .pointer (some ⟨g1, sN * 2, none⟩) := hdep ⟨4, .data⟩ (by simp) rfl rfl rfl
              have q37 : a.tmps[37]?.getD undef = .pointer (some ⟨g1, sN * 2, none⟩) := by simpa [Array.getD_eq_getD_getElem?] using d37
              clear d37
              have t0 := (hb.cell (p := ⟨g1, _, none⟩) hyl.out).trans cy0.out
              have t1 := (hb.cell (p := ⟨g1, _, none⟩) hyl.out).trans cy1.out
              clear hb hdep hk
              go_simp
              exact hK _ _ rfl (Below.refl _ _)
          · as_aux_lemma =>
              intro a W2 K hb hdep hk hK
              replace hK : ∀ v w', v = .agg #[.int .i64 tq.1, .int .i64 tq.2.1, .int .i64 tq.2.2.1, .int .i64 tq.2.2.2] → Below W2.heap.size W2 w' → K (a.put (some 39) v) w' := hK
              have d33 : a.tmps.getD 33 undef = .agg #[.int .i64 l.segs, .slice (some ⟨bP, oP, none⟩) l.plans.length c, .slice B l.hosts.length d] := hdep ⟨0, .data⟩ (by simp) rfl rfl rfl
              have d34 : a.tmps.getD 34 undef = .slice (some ⟨bI, oI, none⟩) l.bs.length e := hdep ⟨1, .data⟩ (by simp) rfl rfl rfl
              have d38 : a.tmps.getD 38 undef = .agg #[.int .i64 q.1, .int .i64 q.2] := hdep ⟨5, .data⟩ (by simp) rfl rfl rfl
              have q33 : a.tmps[33]?.getD undef = .agg #[.int .i64 l.segs, .slice (some ⟨bP, oP, none⟩) l.plans.length c, .slice B l.hosts.length d] := by simpa [Array.getD_eq_getD_getElem?] using d33
              clear d33
              have q34 : a.tmps[34]?.getD undef = .slice (some ⟨bI, oI, none⟩) l.bs.length e := by simpa [Array.getD_eq_getD_getElem?] using d34
              clear d34
              have q38 : a.tmps[38]?.getD undef = .agg #[.int .i64 q.1, .int .i64 q.2] := by simpa [Array.getD_eq_getD_getElem?] using d38
              clear d38
              have hcall := hTL.out W2 hb
              clear hb hdep hk
              go_simp
              refine hcall.mono ?_
              rintro en w9 ⟨rfl, hb9⟩
              exact hK _ _ rfl hb9
          · as_aux_lemma =>
              intro a W2 K hb hdep hk hK
              replace hK : ∀ v w', v = .pointer (some ⟨wo.heap.size, 1, none⟩) → Below W2.heap.size W2 w' → K (a.put (some 40) v) w' := hK
              have d12 : a.tmps.getD 12 undef = .pointer (some ⟨wo.heap.size, 0, none⟩) := hk 12 (by kernel_rfl)
              have q12 : a.tmps[12]?.getD undef = .pointer (some ⟨wo.heap.size, 0, none⟩) := by simpa [Array.getD_eq_getD_getElem?] using d12
              clear d12
              clear hb hdep hk
              go_simp
              exact hK _ _ rfl (Below.refl _ _)
          · as_aux_lemma =>
              intro a W2 K hb hdep hk hK
              replace hK : ∀ v w', v = .int .i64 y.cost → Below W2.heap.size W2 w' → K (a.put (some 41) v) w' := hK
              have d40 : a.tmps.getD 40 undef = .pointer (some ⟨wo.heap.size, 1, none⟩) := hdep ⟨7, .data⟩ (by simp) rfl rfl rfl
              have q40 : a.tmps[40]?.getD undef = .pointer (some ⟨wo.heap.size, 1, none⟩) := by simpa [Array.getD_eq_getD_getElem?] using d40
              clear d40
              have s1 := (X8s.out.below hb).c (i := 1) rfl
              clear hb hdep hk
              go_simp
              exact hK _ _ rfl (Below.refl _ _)
          · as_aux_lemma =>
              intro a W2 K hb hdep hk hK
              replace hK : ∀ v w', v = .tuple #[.agg #[.int .i64 tq.1, .int .i64 (tq.2.1 + y.cost), .int .i64 tq.2.2.1, .int .i64 tq.2.2.2], .int .i64 0] → Below W2.heap.size W2 w' → K (a.put (some 42) v) w' := hK
              have d39 : a.tmps.getD 39 undef = .agg #[.int .i64 tq.1, .int .i64 tq.2.1, .int .i64 tq.2.2.1, .int .i64 tq.2.2.2] := hdep ⟨6, .data⟩ (by simp) rfl rfl rfl
              have d41 : a.tmps.getD 41 undef = .int .i64 y.cost := hdep ⟨8, .data⟩ (by simp) rfl rfl rfl
              have q39 : a.tmps[39]?.getD undef = .agg #[.int .i64 tq.1, .int .i64 tq.2.1, .int .i64 tq.2.2.1, .int .i64 tq.2.2.2] := by simpa [Array.getD_eq_getD_getElem?] using d39
              clear d39
              have q41 : a.tmps[41]?.getD undef = .int .i64 y.cost := by simpa [Array.getD_eq_getD_getElem?] using d41
              clear d41
              clear hb hdep hk
              go_simp
              refine (hFr.out _).mono ?_
              rintro en w9 ⟨rfl, hb9⟩
              exact hK _ _ rfl hb9
          · as_aux_lemma =>
              intro a W2 K hb hdep hk hK
              replace hK : ∀ v w', v = .tuple #[.agg #[.int .i64 tq.1, .int .i64 (tq.2.1 + y.cost), .int .i64 tq.2.2.1, .int .i64 tq.2.2.2], .int .i64 0] → Below W2.heap.size W2 w' → K (a.put (some 32) v) w' := hK
              have d42 : a.tmps.getD 42 undef = .tuple #[.agg #[.int .i64 tq.1, .int .i64 (tq.2.1 + y.cost), .int .i64 tq.2.2.1, .int .i64 tq.2.2.2], .int .i64 0] := hdep ⟨9, .data⟩ (by simp) rfl rfl rfl
              have q42 : a.tmps[42]?.getD undef = .tuple #[.agg #[.int .i64 tq.1, .int .i64 (tq.2.1 + y.cost), .int .i64 tq.2.2.1, .int .i64 tq.2.2.2], .int .i64 0] := by simpa [Array.getD_eq_getD_getElem?] using d42
              clear d42
              clear hb hdep hk
              go_simp
              exact hK _ _ rfl (Below.refl _ _)
          · as_aux_lemma =>
              intro a W2 K hb hdep hk hK
              replace hK : ∀ v w', v = .agg #[.int .i64 tq.1, .int .i64 (tq.2.1 + y.cost), .int .i64 tq.2.2.1, .int .i64 tq.2.2.2] → Below W2.heap.size W2 w' → K (a.put (some 43) v) w' := hK
              have d32 : a.tmps.getD 32 undef = .tuple #[.agg #[.int .i64 tq.1, .int .i64 (tq.2.1 + y.cost), .int .i64 tq.2.2.1, .int .i64 tq.2.2.2], .int .i64 0] := hdep ⟨10, .data⟩ (by simp) rfl rfl rfl
              have q32 : a.tmps[32]?.getD undef = .tuple #[.agg #[.int .i64 tq.1, .int .i64 (tq.2.1 + y.cost), .int .i64 tq.2.2.1, .int .i64 tq.2.2.2], .int .i64 0] := by simpa [Array.getD_eq_getD_getElem?] using d32
              clear d32
              clear hb hdep hk
              go_simp
              exact hK _ _ rfl (Below.refl _ _)
          · as_aux_lemma =>
              intro a W2 K hb hdep hk hK
              replace hK : ∀ v w', v = .int .i64 0 → Below W2.heap.size W2 w' → K (a.put (some 44) v) w' := hK
              have d32 : a.tmps.getD 32 undef = .tuple #[.agg #[.int .i64 tq.1, .int .i64 (tq.2.1 + y.cost), .int .i64 tq.2.2.1, .int .i64 tq.2.2.2], .int .i64 0] := hdep ⟨10, .data⟩ (by simp) rfl rfl rfl
              have q32 : a.tmps[32]?.getD undef = .tuple #[.agg #[.int .i64 tq.1, .int .i64 (tq.2.1 + y.cost), .int .i64 tq.2.2.1, .int .i64 tq.2.2.2], .int .i64 0] := by simpa [Array.getD_eq_getD_getElem?] using d32
              clear d32
              clear hb hdep hk
              go_simp
              exact hK _ _ rfl (Below.refl _ _)
          · as_aux_lemma =>
              intro a W2 K hb hdep hk hK
              replace hK : ∀ w', w' = W2.alloc (.cells #[.int .i64 0, .int .i64 0, .int .i64 0, .int .i64 0] 103) → K (a.put (some 13) (.pointer (some ⟨W2.heap.size, 0, none⟩))) w' := hK
              clear hb hdep hk
              go_simp
              exact hK _ rfl
          · as_aux_lemma =>
              intro a W2 K hb hdep hk p hp hX hK
              replace hp : a.tmps.getD 13 undef = .pointer (some ⟨p, 0, none⟩) := hp
              replace hX : Go.Proofs.Ytplgaenfcaphnaa.BoxP.Bx W2 p 103 #[.int .i64 0, .int .i64 0, .int .i64 0, .int .i64 0] := hX
              replace hK : ∀ w', Go.Proofs.Ytplgaenfcaphnaa.BoxP.Bx w' p 103 #[.int .i64 tq.1, .int .i64 (tq.2.1 + y.cost), .int .i64 tq.2.2.1, .int .i64 tq.2.2.2] → W2.grownBy w' (some p) → K a w' := hK
              have d43 : a.tmps.getD 43 undef = .agg #[.int .i64 tq.1, .int .i64 (tq.2.1 + y.cost), .int .i64 tq.2.2.1, .int .i64 tq.2.2.2] := hdep ⟨11, .data⟩ (by simp) rfl rfl rfl
              have q43 : a.tmps[43]?.getD undef = .agg #[.int .i64 tq.1, .int .i64 (tq.2.1 + y.cost), .int .i64 tq.2.2.1, .int .i64 tq.2.2.2] := by simpa [Array.getD_eq_getD_getElem?] using d43
              clear d43
              have q13 : a.tmps[13]?.getD undef = .pointer (some ⟨p, 0, none⟩) := by simpa [Array.getD_eq_getD_getElem?] using hp
              clear hp
              have c0 := hX.c (i := 0) rfl
              have f0 := hX.f 0
              have c1 := hX.c (i := 1) rfl
              have f1 := hX.f 1
              have c2 := hX.c (i := 2) rfl
              have f2 := hX.f 2
              have c3 := hX.c (i := 3) rfl
              have f3 := hX.f 3
              have hlt := hX.lt
              replace hX := Lib.hid hX
              clear hb hdep hk
              go_simp
              exact hK _ ((((hX.out.set 0 _).set 1 _).set 2 _).set 3 _) ((((setCell_grown _ _ _ _).trans (setCell_grown _ _ _ _)).trans (setCell_grown _ _ _ _)).trans (setCell_grown _ _ _ _))
          · as_aux_lemma =>
              intro a W2 K hb hdep hk hK
              replace hK : ∀ v w', v = .int .i64 0 → Below W2.heap.size W2 w' → K (a.put (some 14) v) w' := hK
              have d44 : a.tmps.getD 44 undef = .int .i64 0 := hdep ⟨12, .data⟩ (by simp) rfl rfl rfl
              have q44 : a.tmps[44]?.getD undef = .int .i64 0 := by simpa [Array.getD_eq_getD_getElem?] using d44
              clear d44
              clear hb hdep hk
              go_simp
              exact hK _ _ rfl (Below.refl _ _)
        intro a wbx hsp hbxs hne hk hn hdf hbx
        obtain ⟨pV, epV, gepV, XpV⟩ := hbxs 0 (by decide)
        replace XpV := Lib.hid (show Go.Proofs.Ytplgaenfcaphnaa.BoxP.Bx wbx pV 103 #[.int .i64 tq.1, .int .i64 (tq.2.1 + y.cost), .int .i64 tq.2.2.1, .int .i64 tq.2.2.2] from XpV)
        clear hne hbxs
        have s0 : a.tmps.getD 0 undef = lv l (some ⟨bP, oP, none⟩) c B d := hk 0 (by kernel_rfl)
        have s1 : a.tmps.getD 1 undef = .slice (some ⟨bI, oI, none⟩) l.bs.length e := hk 1 (by kernel_rfl)
        have s2 : a.tmps.getD 2 undef = .agg (A16 (owF l l.n)) := hk 2 (by kernel_rfl)
        have s3 : a.tmps.getD 3 undef = .int .i64 b := hk 3 (by kernel_rfl)
        have s4 : a.tmps.getD 4 undef = .pointer (some ⟨w.heap.size, 0, none⟩) := hk 4 (by kernel_rfl)
        have s6 : a.tmps.getD 6 undef = .pointer (some ⟨g1, 0, none⟩) := hk 6 (by kernel_rfl)
        have s8 : a.tmps.getD 8 undef = .int .i64 0 := hk 8 (by kernel_rfl)
        have s9 : a.tmps.getD 9 undef = .slice A9 K.length c9 := hk 9 (by kernel_rfl)
        have s10 : a.tmps.getD 10 undef = .slice A10 K.length c10 := hk 10 (by kernel_rfl)
        have s11 : a.tmps.getD 11 undef = .int .i64 j := hk 11 (by kernel_rfl)
        have s12 : a.tmps.getD 12 undef = .pointer (some ⟨wo.heap.size, 0, none⟩) := hk 12 (by kernel_rfl)
        have s17 : a.tmps.getD 17 undef = .pointer (some ⟨w.heap.size, 1, none⟩) := hk 17 (by kernel_rfl)
        have s18 : a.tmps.getD 18 undef = .slice (some ⟨bP, oP, none⟩) l.plans.length c := hk 18 (by kernel_rfl)
        have s19 : a.tmps.getD 19 undef = .int .i64 b := hk 19 (by kernel_rfl)
        have s20 : a.tmps.getD 20 undef = .pointer (some ⟨bP, oP + b * 2, none⟩) := hk 20 (by kernel_rfl)
        have s21 : a.tmps.getD 21 undef = .pointer (some ⟨bP, oP + b * 2 + 1, none⟩) := hk 21 (by kernel_rfl)
        have s22 : a.tmps.getD 22 undef = .slice (some ⟨bS8, oS8, none⟩) p.ports.length c2 := hk 22 (by kernel_rfl)
        have s23 : a.tmps.getD 23 undef = .int .i64 p.ports.length := hk 23 (by kernel_rfl)
        have s24 : a.tmps.getD 24 undef = .int .i64 j := hk 24 (by kernel_rfl)
        have s5 : a.tmps.getD 5 undef = undef := hk 5 (by kernel_rfl)
        have s7 : a.tmps.getD 7 undef = undef := hk 7 (by kernel_rfl)
        have s15 : a.tmps.getD 15 undef = undef := hk 15 (by kernel_rfl)
        have s16 : a.tmps.getD 16 undef = undef := hk 16 (by kernel_rfl)
        have s64 : a.tmps.getD 64 undef = undef := hk 64 (by kernel_rfl)
        have s65 : a.tmps.getD 65 undef = undef := hk 65 (by kernel_rfl)
        have s66 : a.tmps.getD 66 undef = undef := hk 66 (by kernel_rfl)
        have s67 : a.tmps.getD 67 undef = undef := hk 67 (by kernel_rfl)
        have s68 : a.tmps.getD 68 undef = undef := hk 68 (by kernel_rfl)
        have s69 : a.tmps.getD 69 undef = undef := hk 69 (by kernel_rfl)
        have s70 : a.tmps.getD 70 undef = undef := hk 70 (by kernel_rfl)
        have s71 : a.tmps.getD 71 undef = undef := hk 71 (by kernel_rfl)
        have s72 : a.tmps.getD 72 undef = undef := hk 72 (by kernel_rfl)
        have s73 : a.tmps.getD 73 undef = undef := hk 73 (by kernel_rfl)
        have s74 : a.tmps.getD 74 undef = undef := hk 74 (by kernel_rfl)
        have s33 : a.tmps.getD 33 undef = .agg #[.int .i64 l.segs, .slice (some ⟨bP, oP, none⟩) l.plans.length c, .slice B l.hosts.length d] := hsp 0 (by decide) rfl rfl
        have s34 : a.tmps.getD 34 undef = .slice (some ⟨bI, oI, none⟩) l.bs.length e := hsp 1 (by decide) rfl rfl
        have s35 : a.tmps.getD 35 undef = .pointer (some ⟨wo.heap.size, 0, none⟩) := hsp 2 (by decide) rfl rfl
        have s36 : a.tmps.getD 36 undef = .int .i64 (sN : Int) := hsp 3 (by decide) rfl rfl
        have s37 : a.tmps.getD 37 undef = .pointer (some ⟨g1, sN * 2, none⟩) := hsp 4 (by decide) rfl rfl
        have s38 : a.tmps.getD 38 undef = .agg #[.int .i64 q.1, .int .i64 q.2] := hsp 5 (by decide) rfl rfl
        have s39 : a.tmps.getD 39 undef = .agg #[.int .i64 tq.1, .int .i64 tq.2.1, .int .i64 tq.2.2.1, .int .i64 tq.2.2.2] := hsp 6 (by decide) rfl rfl
        have s40 : a.tmps.getD 40 undef = .pointer (some ⟨wo.heap.size, 1, none⟩) := hsp 7 (by decide) rfl rfl
        have s41 : a.tmps.getD 41 undef = .int .i64 y.cost := hsp 8 (by decide) rfl rfl
        have s42 : a.tmps.getD 42 undef = .tuple #[.agg #[.int .i64 tq.1, .int .i64 (tq.2.1 + y.cost), .int .i64 tq.2.2.1, .int .i64 tq.2.2.2], .int .i64 0] := hsp 9 (by decide) rfl rfl
        have s32 : a.tmps.getD 32 undef = .tuple #[.agg #[.int .i64 tq.1, .int .i64 (tq.2.1 + y.cost), .int .i64 tq.2.2.1, .int .i64 tq.2.2.2], .int .i64 0] := hsp 10 (by decide) rfl rfl
        have s43 : a.tmps.getD 43 undef = .agg #[.int .i64 tq.1, .int .i64 (tq.2.1 + y.cost), .int .i64 tq.2.2.1, .int .i64 tq.2.2.2] := hsp 11 (by decide) rfl rfl
        have s44 : a.tmps.getD 44 undef = .int .i64 0 := hsp 12 (by decide) rfl rfl
        have s14 : a.tmps.getD 14 undef = .int .i64 0 := hsp 15 (by decide) rfl rfl
        have s13 : a.tmps.getD 13 undef = .pointer (some ⟨pV, 0, none⟩) := epV
        clear hk hsp epV
        obtain ⟨tm, df⟩ := a
        have e := arr_out tm 75 hn
        replace e : tm = #[tm.getD 0 undef, tm.getD 1 undef, tm.getD 2 undef, tm.getD 3 undef, tm.getD 4 undef, tm.getD 5 undef, tm.getD 6 undef, tm.getD 7 undef, tm.getD 8 undef, tm.getD 9 undef, tm.getD 10 undef, tm.getD 11 undef, tm.getD 12 undef, tm.getD 13 undef, tm.getD 14 undef, tm.getD 15 undef, tm.getD 16 undef, tm.getD 17 undef, tm.getD 18 undef, tm.getD 19 undef, tm.getD 20 undef, tm.getD 21 undef, tm.getD 22 undef, tm.getD 23 undef, tm.getD 24 undef, tm.getD 25 undef, tm.getD 26 undef, tm.getD 27 undef, tm.getD 28 undef, tm.getD 29 undef, tm.getD 30 undef, tm.getD 31 undef, tm.getD 32 undef, tm.getD 33 undef, tm.getD 34 undef, tm.getD 35 undef, tm.getD 36 undef, tm.getD 37 undef, tm.getD 38 undef, tm.getD 39 undef, tm.getD 40 undef, tm.getD 41 undef, tm.getD 42 undef, tm.getD 43 undef, tm.getD 44 undef, tm.getD 45 undef, tm.getD 46 undef, tm.getD 47 undef, tm.getD 48 undef, tm.getD 49 undef, tm.getD 50 undef, tm.getD 51 undef, tm.getD 52 undef, tm.getD 53 undef, tm.getD 54 undef, tm.getD 55 undef, tm.getD 56 undef, tm.getD 57 undef, tm.getD 58 undef, tm.getD 59 undef, tm.getD 60 undef, tm.getD 61 undef, tm.getD 62 undef, tm.getD 63 undef, tm.getD 64 undef, tm.getD 65 undef, tm.getD 66 undef, tm.getD 67 undef, tm.getD 68 undef, tm.getD 69 undef, tm.getD 70 undef, tm.getD 71 undef, tm.getD 72 undef, tm.getD 73 undef, tm.getD 74 undef] := e
        simp only at s0 s1 s2 s3 s4 s6 s8 s9 s10 s11 s12 s17 s18 s19 s20 s21 s22 s23 s24 s5 s7 s15 s16 s64 s65 s66 s67 s68 s69 s70 s71 s72 s73 s74 s33 s34 s35 s36 s37 s38 s39 s40 s41 s42 s32 s43 s44 s14 s13 hdf
        rw [s0, s1, s2, s3, s4, s6, s8, s9, s10, s11, s12, s17, s18, s19, s20, s21, s22, s23, s24, s5, s7, s15, s16, s64, s65, s66, s67, s68, s69, s70, s71, s72, s73, s74, s33, s34, s35, s36, s37, s38, s39, s40, s41, s42, s32, s43, s44, s14, s13] at e
        subst hdf
        clear s0 s1 s2 s3 s4 s6 s8 s9 s10 s11 s12 s17 s18 s19 s20 s21 s22 s23 s24 s5 s7 s15 s16 s64 s65 s66 s67 s68 s69 s70 s71 s72 s73 s74 s33 s34 s35 s36 s37 s38 s39 s40 s41 s42 s32 s43 s44 s14 s13 hn
        generalize tm.getD 25 undef = u25 at e
        generalize tm.getD 26 undef = u26 at e
        generalize tm.getD 27 undef = u27 at e
        generalize tm.getD 28 undef = u28 at e
        generalize tm.getD 29 undef = u29 at e
        generalize tm.getD 30 undef = u30 at e
        generalize tm.getD 31 undef = u31 at e
        generalize tm.getD 45 undef = u45 at e
        generalize tm.getD 46 undef = u46 at e
        generalize tm.getD 47 undef = u47 at e
        generalize tm.getD 48 undef = u48 at e
        generalize tm.getD 49 undef = u49 at e
        generalize tm.getD 50 undef = u50 at e
        generalize tm.getD 51 undef = u51 at e
        generalize tm.getD 52 undef = u52 at e
        generalize tm.getD 53 undef = u53 at e
        generalize tm.getD 54 undef = u54 at e
        generalize tm.getD 55 undef = u55 at e
        generalize tm.getD 56 undef = u56 at e
        generalize tm.getD 57 undef = u57 at e
        generalize tm.getD 58 undef = u58 at e
        generalize tm.getD 59 undef = u59 at e
        generalize tm.getD 60 undef = u60 at e
        generalize tm.getD 61 undef = u61 at e
        generalize tm.getD 62 undef = u62 at e
        generalize tm.getD 63 undef = u63 at e
        subst e
        simp only [Exit.then]
        clear hTL hFr
        have b13 := Lib.hid (bt b8.out hbx)
        have o913 := Lib.hid (o98.out.below hbx)
        have o1013 := Lib.hid (o108.out.below hbx)
        have X13 := Lib.hid (X8l.out.below hbx)
        have Y13 := Lib.hid (Y8l.out.below hbx)
        have hsz13 := Lib.hid (Nat.le_trans hsz8.out hbx.size)
        have hA9 := Lib.hid (fun k (hk : (Value.slice A9 K.length c9).ownBlock = some k) => (o98.out.lt k hk).2)
        have hA10 := Lib.hid (fun k (hk : (Value.slice A10 K.length c10).ownBlock = some k) => (o108.out.lt k hk).2)
        clear o98 o108 X8l Y8l hsz8 b8 X8 X8s hbx cy0 cy1 hyl zz8 o8_0
        have B13 := bt B1.out b13.out
        have rr0 := (B13.cell (p := ⟨bI, _, none⟩) hbI.out).trans r0.out
        have rr1 := (B13.cell (p := ⟨bI, _, none⟩) hbI.out).trans r1.out
        have hbI2 := Nat.lt_of_lt_of_le hbI.out B13.size
        replace B13 := Lib.hid B13
        have v0 := XpV.out.c (i := 0) rfl
        have v1 := XpV.out.c (i := 1) rfl
        have zv := XpV.out.lt
        obtain ⟨ff, hff⟩ : ∃ ff, (decide (bv.1 = tq.1) && decide (bv.2 = tq.2.1 + y.cost)) = ff := ⟨_, rfl⟩
        have hqq := eq_pair bv.1 bv.2 tq.1 (tq.2.1 + y.cost)
        rw [hff] at hqq
        have hfit := Lib.hid (show fitR l b j = ff by unfold fitR; rw [hpy.out, hup.out, hbv.out, ht.out, htt.out]; exact hff)
        replace hff := Lib.hid hff
        cases ff
        · have hs2 := Lib.hid (show fitsTo l b (j + 1) = K by rw [hs1.out, if_neg (by rw [hfit.out]; simp), List.append_nil])
          go_upto_region 8 with fail
          go_quiet (fail)
          obtain ⟨w14, hw14⟩ : ∃ W, W = wbx.drewN nq := ⟨_, rfl⟩
          have bb14 : Below wbx.heap.size wbx w14 := by rw [hw14]; exact ⟨rfl, rfl, rfl, Nat.le_refl _, fun _ _ => rfl⟩
          rw [← hw14]
          have o914 := Lib.hid (o913.out.below bb14)
          have o1014 := Lib.hid (o1013.out.below bb14)
          have X14 := Lib.hid (X13.out.below bb14)
          have Y14 := Lib.hid (Y13.out.below bb14)
          have V14 := Lib.hid (XpV.out.below bb14)
          have b14 := Lib.hid (bt b13.out bb14)
          have hsz14 := Lib.hid (Nat.le_trans hsz13.out bb14.size)
          clear hw14 bb14 rr0 rr1 hbI2 v0 v1 zv o913 o1013 X13 Y13 XpV b13 hsz13 hqq
          go_wp2_with fail
          go_roundw
          case rel => exact ⟨j + 1, by omega, by go_num, by rw [hs2.out]; exact o914.out, by rw [hs2.out]; exact o1014.out, hne.out, hsz14.out, X14.out, Y14.out, b14.out⟩
          case measure => simp [intOf]; omega
        · have hs2 := Lib.hid (show fitsTo l b (j + 1) = K ++ [j] by rw [hs1.out, if_pos hfit.out])
          go_upto_region 8 with fail
          go_quiet (fail)
          obtain ⟨w14, hw14⟩ : ∃ W, W = wbx.drewN nq := ⟨_, rfl⟩
          have bb14 : Below wbx.heap.size wbx w14 := by rw [hw14]; exact ⟨rfl, rfl, rfl, Nat.le_refl _, fun _ _ => rfl⟩
          rw [← hw14]
          have o914 := Lib.hid (o913.out.below bb14)
          have o1014 := Lib.hid (o1013.out.below bb14)
          have X14 := Lib.hid (X13.out.below bb14)
          have Y14 := Lib.hid (Y13.out.below bb14)
          have V14 := Lib.hid (XpV.out.below bb14)
          have b14 := Lib.hid (bt b13.out bb14)
          have hsz14 := Lib.hid (Nat.le_trans hsz13.out bb14.size)
          clear hw14 bb14 rr0 rr1 hbI2 v0 v1 zv o913 o1013 X13 Y13 XpV b13 hsz13 hqq
          have hw9 := Lib.hid (fun k (hk : (Value.slice A9 K.length c9).ownBlock = some k) => o914.out.lt k hk)
          have hw10 := Lib.hid (fun k (hk : (Value.slice A10 K.length c10).ownBlock = some k) => o1014.out.lt k hk)
          have hbzw := Lib.hid hsz14.out
          go_upto_region 9 with fail
          obtain ⟨P9, hP9⟩ : ∃ P : Value → World → Prop, P = AppR w14 bz 3 1 (Value.slice A9 K.length c9).ownBlock (((K ++ [j]).map Int.ofNat).map ic) := ⟨_, rfl⟩
          obtain ⟨P10, hP10⟩ : ∃ P : Value → World → Prop, P = AppR w14 bz 103 4 (Value.slice A10 K.length c10).ownBlock (((K ++ [j]).map (wayT l b)).map vcl) := ⟨_, rfl⟩
          obtain ⟨ow9, how9⟩ : ∃ o, (Value.slice A9 K.length c9).ownBlock = o := ⟨_, rfl⟩
          obtain ⟨ow10, how10⟩ : ∃ o, (Value.slice A10 K.length c10).ownBlock = o := ⟨_, rfl⟩
          rw [how9] at hP9 hw9
          rw [how10] at hP10 hw10
          have hne2 := Lib.hid (show ∀ k, ow9 = some k → ow10 ≠ some k by rw [← how9, ← how10]; exact hne.out)
          replace hP9 := Lib.hid hP9
          replace hP10 := Lib.hid hP10
          replace how9 := Lib.hid how9
          replace how10 := Lib.hid how10
          refine wp_region_stay (by kernel_rfl) (fun ix => match ix with | 0 => 55 | 1 => 56 | 2 => 57 | 3 => 58 | 4 => 59 | 5 => 60 | 6 => 61 | 7 => 62 | 8 => 9 | 9 => 10 | _ => 0) (fun _ => false) (by kernel_rfl) (fun ix k => match ix with | 3 => ow9 = some k | 7 => ow10 = some k | _ => False)
            (fun ix v W => match ix with | 0 => v = .slice A9 K.length c9 | 1 => v = .int .i64 j | 2 => NewR w14 3 #[.int .i64 j] v W | 3 => P9 v W | 4 => v = .slice A10 K.length c10 | 5 => v = .agg #[.int .i64 tq.1, .int .i64 (tq.2.1 + y.cost), .int .i64 tq.2.2.1, .int .i64 tq.2.2.2] | 6 => NewR w14 103 #[.int .i64 tq.1, .int .i64 (tq.2.1 + y.cost), .int .i64 tq.2.2.1, .int .i64 tq.2.2.2] v W | 7 => P10 v W | 8 => P9 v W | 9 => P10 v W | _ => True) ?_ ?_ ?_
          · intro i i2 v W W' hi hed hst hs
            have n9 : ∀ k, ow9 = some k → k < w14.heap.size := fun k hk => (hw9.out k hk).2
            have n10 : ∀ k, ow10 = some k → k < w14.heap.size := fun k hk => (hw10.out k hk).2
            by_cases q3 : i2 = 3
            · subst q3
              replace hst : Stay (fun k => ow9 = some k) W W' := hst
              match i, hi, hed, hs with
              | 0, _, _, hs => exact hs
              | 1, _, _, hs => exact hs
              | 2, _, _, hs => exact NewR.stay hs hst n9
              | 3, h, _, _ => exact absurd rfl h
              | 4, _, _, hs => exact hs
              | 5, _, _, hs => exact hs
              | 6, _, _, hs => exact NewR.stay hs hst n9
              | 7, _, _, hs =>
                replace hs : P10 v W := hs
                show P10 v W'
                rw [hP10.out] at hs ⊢
                exact hs.stay hst n9 (fun k h1 h2 => hne2.out k h2 h1)
              | 8, _, he, _ => exact absurd he (by decide +kernel)
              | 9, _, he, _ => exact absurd he (by decide +kernel)
              | n + 10, _, _, _ => exact trivial
            · by_cases q7 : i2 = 7
              · subst q7
                replace hst : Stay (fun k => ow10 = some k) W W' := hst
                match i, hi, hed, hs with
                | 0, _, _, hs => exact hs
                | 1, _, _, hs => exact hs
                | 2, _, _, hs => exact NewR.stay hs hst n10
                | 3, _, _, hs =>
                  replace hs : P9 v W := hs
                  show P9 v W'
                  rw [hP9.out] at hs ⊢
                  exact hs.stay hst n10 (fun k h1 h2 => hne2.out k h1 h2)
                | 4, _, _, hs => exact hs
                | 5, _, _, hs => exact hs
                | 6, _, _, hs => exact NewR.stay hs hst n10
                | 7, h, _, _ => exact absurd rfl h
                | 8, _, he, _ => exact absurd he (by decide +kernel)
                | 9, _, he, _ => exact absurd he (by decide +kernel)
                | n + 10, _, _, _ => exact trivial
              · have hno : Stay (fun k => (none : Option Nat) = some k) W W' := stay_weak hst (fun k hk => by
                  revert hk
                  split
                  · exact absurd rfl q3
                  · exact absurd rfl q7
                  · exact fun h => h.elim)
                have nn : ∀ k, (none : Option Nat) = some k → k < w14.heap.size := fun k h => by cases h
                match i, hs with
                | 0, hs => exact hs
                | 1, hs => exact hs
                | 2, hs => exact NewR.stay hs hno nn
                | 3, hs =>
                  replace hs : P9 v W := hs
                  show P9 v W'
                  rw [hP9.out] at hs ⊢
                  exact hs.stay hno nn (fun k _ h2 => by cases h2)
                | 4, hs => exact hs
                | 5, hs => exact hs
                | 6, hs => exact NewR.stay hs hno nn
                | 7, hs =>
                  replace hs : P10 v W := hs
                  show P10 v W'
                  rw [hP10.out] at hs ⊢
                  exact hs.stay hno nn (fun k _ h2 => by cases h2)
                | 8, hs =>
                  replace hs : P9 v W := hs
                  show P9 v W'
                  rw [hP9.out] at hs ⊢
                  exact hs.stay hno nn (fun k _ h2 => by cases h2)
                | 9, hs =>
                  replace hs : P10 v W := hs
                  show P10 v W'
                  rw [hP10.out] at hs ⊢
                  exact hs.stay hno nn (fun k _ h2 => by cases h2)
                | n + 10, _ => exact trivial
          · refine ⟨?_, ?_, ?_, ?_, ?_, ?_, ?_, ?_, ?_, ?_, trivial⟩
            · intro a W2 K' hst hdep hk hK
              replace hK : ∀ v w', v = .slice A9 K.length c9 → Stay (fun _ => False) W2 w' → K' (a.put (some 55) v) w' := hK
              have d9 : a.tmps.getD 9 undef = .slice A9 K.length c9 := hk 9 (by kernel_rfl)
              have q9 : a.tmps[9]?.getD undef = .slice A9 K.length c9 := by simpa [Array.getD_eq_getD_getElem?] using d9
              clear d9
              clear hdep hk hst
              go_simp
              exact hK _ _ rfl (Stay.refl _ _)
            · intro a W2 K' hst hdep hk hK
              replace hK : ∀ v w', v = .int .i64 (j : Int) → Stay (fun _ => False) W2 w' → K' (a.put (some 56) v) w' := hK
              have d11 : a.tmps.getD 11 undef = .int .i64 (j : Int) := hk 11 (by kernel_rfl)
              have q11 : a.tmps[11]?.getD undef = .int .i64 (j : Int) := by simpa [Array.getD_eq_getD_getElem?] using d11
              clear d11
              clear hdep hk hst
              go_simp
              exact hK _ _ rfl (Stay.refl _ _)
            · intro a W2 K' hst hdep hk hK
              replace hK : ∀ v w', NewR w14 3 #[.int .i64 (j : Int)] v w' → Stay (fun _ => False) W2 w' → K' (a.put (some 57) v) w' := hK
              have d56 : a.tmps.getD 56 undef = .int .i64 (j : Int) := hdep ⟨1, .data⟩ (by simp) rfl
              have q56 : a.tmps[56]?.getD undef = .int .i64 (j : Int) := by simpa [Array.getD_eq_getD_getElem?] using d56
              clear d56
              have hsz9 := Lib.hid hst.size
              clear hdep hk hst
              go_simp
              exact hK _ _ ⟨_, rfl, hsz9.out, Bx.new _ _ _ rfl⟩ (Stay.of ((Below.refl _ _).alloc (Nat.le_refl _) _))
            · intro a W2 K' hst hdep hk hK
              replace hK : ∀ v w', P9 v w' → Stay (fun k => ow9 = some k) W2 w' → K' (a.put (some 58) v) w' := hK
              have d1 : a.tmps.getD 55 undef = .slice A9 K.length c9 := hdep ⟨0, .data⟩ (by simp) rfl
              obtain ⟨g, d2, hg, hX2⟩ : NewR w14 3 #[.int .i64 (j : Int)] (a.tmps.getD 57 undef) W2 := hdep ⟨2, .data⟩ (by simp) rfl
              have oW := own_stay o914.out hst (fun k hk2 hq => by
                obtain ⟨jj, hj1, hj2⟩ := hq
                match jj, hj1, hj2 with
                | 0, _, hj2 => exact hj2.elim
                | 1, _, hj2 => exact hj2.elim
                | 2, _, hj2 => exact hj2.elim
                | 3, hj1, _ => exact absurd rfl hj1
                | 4, _, hj2 => exact hj2.elim
                | 5, _, hj2 => exact hj2.elim
                | 6, _, hj2 => exact hj2.elim
                | 7, _, hj2 => exact hne2.out k (how9.out.symm.trans hk2) hj2
                | n + 8, _, hj2 => exact hj2.elim)
              refine wp_append_sl (.tmp 55) (.tmp 57) 43 rfl IntP.elI d1 oW d2 (ys := [[Value.int .i64 (j : Int)]]) rfl (bx_sl hX2 rfl (by intro cc hcc; simp at hcc; subst hcc; rfl)) (wholeI [(j : Int)]) (fun e => by cases e) (by rw [List.length_map, List.length_map]; have := hKl.out; simp; omega) (Nat.le_trans hbzw.out hst.size) ?_
              intro v' w' o1 g1' hv1
              rw [how9.out] at g1' hv1
              refine hK v' w' (by rw [hP9.out]; exact ⟨by rw [show ((K ++ [j]).map Int.ofNat).map ic = (K.map Int.ofNat).map ic ++ [[Value.int .i64 (j : Int)]] by rw [List.map_append, List.map_append]; rfl]; exact o1, hv1.imp (fun h => h) (fun h => ⟨_, h, hst.size⟩)⟩) ⟨g1'.os, g1'.tape, g1'.output, g1'.size, fun k hk2 hn2 => g1'.block k hk2 (fun e => hn2 e.symm)⟩
            · intro a W2 K' hst hdep hk hK
              replace hK : ∀ v w', v = .slice A10 K.length c10 → Stay (fun _ => False) W2 w' → K' (a.put (some 59) v) w' := hK
              have d10 : a.tmps.getD 10 undef = .slice A10 K.length c10 := hk 10 (by kernel_rfl)
              have q10 : a.tmps[10]?.getD undef = .slice A10 K.length c10 := by simpa [Array.getD_eq_getD_getElem?] using d10
              clear d10
              clear hdep hk hst
              go_simp
              exact hK _ _ rfl (Stay.refl _ _)
            · intro a W2 K' hst hdep hk hK
              replace hK : ∀ v w', v = .agg #[.int .i64 tq.1, .int .i64 (tq.2.1 + y.cost), .int .i64 tq.2.2.1, .int .i64 tq.2.2.2] → Stay (fun _ => False) W2 w' → K' (a.put (some 60) v) w' := hK
              have d13 : a.tmps.getD 13 undef = .pointer (some ⟨pV, 0, none⟩) := hk 13 (by kernel_rfl)
              have q13 : a.tmps[13]?.getD undef = .pointer (some ⟨pV, 0, none⟩) := by simpa [Array.getD_eq_getD_getElem?] using d13
              clear d13
              have VW := hst.bx V14.out (fun hq => by
                obtain ⟨jj, hj1, hj2⟩ := hq
                match jj, hj1, hj2 with
                | 0, _, hj2 => exact hj2.elim
                | 1, _, hj2 => exact hj2.elim
                | 2, _, hj2 => exact hj2.elim
                | 3, _, hj2 => have := hA9.out pV (how9.out.trans hj2); omega
                | 4, _, hj2 => exact hj2.elim
                | 5, _, hj2 => exact hj2.elim
                | 6, _, hj2 => exact hj2.elim
                | 7, _, hj2 => have := hA10.out pV (how10.out.trans hj2); omega
                | n + 8, _, hj2 => exact hj2.elim)
              have c0 := VW.c (i := 0) rfl
              have c1 := VW.c (i := 1) rfl
              have c2' := VW.c (i := 2) rfl
              have c3 := VW.c (i := 3) rfl
              clear hdep hk hst VW
              go_simp
              exact hK _ _ rfl (Stay.refl _ _)
            · intro a W2 K' hst hdep hk hK
              replace hK : ∀ v w', NewR w14 103 #[.int .i64 tq.1, .int .i64 (tq.2.1 + y.cost), .int .i64 tq.2.2.1, .int .i64 tq.2.2.2] v w' → Stay (fun _ => False) W2 w' → K' (a.put (some 61) v) w' := hK
              have d60 : a.tmps.getD 60 undef = .agg #[.int .i64 tq.1, .int .i64 (tq.2.1 + y.cost), .int .i64 tq.2.2.1, .int .i64 tq.2.2.2] := hdep ⟨5, .data⟩ (by simp) rfl
              have q60 : a.tmps[60]?.getD undef = .agg #[.int .i64 tq.1, .int .i64 (tq.2.1 + y.cost), .int .i64 tq.2.2.1, .int .i64 tq.2.2.2] := by simpa [Array.getD_eq_getD_getElem?] using d60
              clear d60
              have hsz9 := Lib.hid hst.size
              clear hdep hk hst
              go_simp
              exact hK _ _ ⟨_, rfl, hsz9.out, Bx.new _ _ _ rfl⟩ (Stay.of ((Below.refl _ _).alloc (Nat.le_refl _) _))
            · intro a W2 K' hst hdep hk hK
              replace hK : ∀ v w', P10 v w' → Stay (fun k => ow10 = some k) W2 w' → K' (a.put (some 62) v) w' := hK
              have d1 : a.tmps.getD 59 undef = .slice A10 K.length c10 := hdep ⟨4, .data⟩ (by simp) rfl
              obtain ⟨g, d2, hg, hX2⟩ : NewR w14 103 #[.int .i64 tq.1, .int .i64 (tq.2.1 + y.cost), .int .i64 tq.2.2.1, .int .i64 tq.2.2.2] (a.tmps.getD 61 undef) W2 := hdep ⟨6, .data⟩ (by simp) rfl
              have oW := own_stay o1014.out hst (fun k hk2 hq => by
                obtain ⟨jj, hj1, hj2⟩ := hq
                match jj, hj1, hj2 with
                | 0, _, hj2 => exact hj2.elim
                | 1, _, hj2 => exact hj2.elim
                | 2, _, hj2 => exact hj2.elim
                | 3, _, hj2 => exact hne2.out k hj2 (how10.out.symm.trans hk2)
                | 4, _, hj2 => exact hj2.elim
                | 5, _, hj2 => exact hj2.elim
                | 6, _, hj2 => exact hj2.elim
                | 7, hj1, _ => exact absurd rfl hj1
                | n + 8, _, hj2 => exact hj2.elim)
              refine wp_append_sl (.tmp 59) (.tmp 61) 101 rfl elV d1 oW d2 (ys := [[Value.int .i64 tq.1, .int .i64 (tq.2.1 + y.cost), .int .i64 tq.2.2.1, .int .i64 tq.2.2.2]]) rfl (bx_sl hX2 rfl (by intro cc hcc; simp at hcc; subst hcc; rfl)) (wholeV [(tq.1, tq.2.1 + y.cost, tq.2.2.1, tq.2.2.2)]) (fun e => by cases e) (by rw [List.length_map, List.length_map]; have := hKl.out; simp; omega) (Nat.le_trans hbzw.out hst.size) ?_
              intro v' w' o1 g1' hv1
              rw [how10.out] at g1' hv1
              refine hK v' w' (by rw [hP10.out]; exact ⟨by rw [show ((K ++ [j]).map (wayT l b)).map vcl = (K.map (wayT l b)).map vcl ++ [[Value.int .i64 tq.1, .int .i64 (tq.2.1 + y.cost), .int .i64 tq.2.2.1, .int .i64 tq.2.2.2]] by rw [List.map_append, List.map_append, List.map_cons, List.map_nil, ht.out, htt.out]; rfl]; exact o1, hv1.imp (fun h => h) (fun h => ⟨_, h, hst.size⟩)⟩) ⟨g1'.os, g1'.tape, g1'.output, g1'.size, fun k hk2 hn2 => g1'.block k hk2 (fun e => hn2 e.symm)⟩
            · intro a W2 K' hst hdep hk hK
              replace hK : ∀ v w', P9 v w' → Stay (fun _ => False) W2 w' → K' (a.put (some 9) v) w' := hK
              have hP : P9 (a.tmps.getD 58 undef) W2 := hdep ⟨3, .data⟩ (by simp) rfl
              obtain ⟨vv9, hvv⟩ : ∃ vv9, a.tmps.getD 58 undef = vv9 := ⟨_, rfl⟩
              rw [hvv] at hP
              have q9 : a.tmps[58]?.getD undef = vv9 := by simpa [Array.getD_eq_getD_getElem?] using hvv
              replace hP := Lib.hid hP
              clear hdep hk hst hvv
              go_simp
              exact hK _ _ hP.out (Stay.refl _ _)
            · intro a W2 K' hst hdep hk hK
              replace hK : ∀ v w', P10 v w' → Stay (fun _ => False) W2 w' → K' (a.put (some 10) v) w' := hK
              have hP : P10 (a.tmps.getD 62 undef) W2 := hdep ⟨7, .data⟩ (by simp) rfl
              obtain ⟨vv9, hvv⟩ : ∃ vv9, a.tmps.getD 62 undef = vv9 := ⟨_, rfl⟩
              rw [hvv] at hP
              have q9 : a.tmps[62]?.getD undef = vv9 := by simpa [Array.getD_eq_getD_getElem?] using hvv
              replace hP := Lib.hid hP
              clear hdep hk hst hvv
              go_simp
              exact hK _ _ hP.out (Stay.refl _ _)
          · intro a W3 hsp hk hn hdf hstf
            have h9P : P9 (a.tmps.getD 9 undef) W3 := hsp 8 (by decide)
            have h10P : P10 (a.tmps.getD 10 undef) W3 := hsp 9 (by decide)
            rw [hP9.out] at h9P
            rw [hP10.out] at h10P
            clear hsp
            obtain ⟨A9', c9', h9v⟩ := own_form h9P.1
            obtain ⟨A10', c10', h10v⟩ := own_form h10P.1
            rw [List.length_map] at h9v h10v
            have of9 := Lib.hid (by have := h9P.1; rw [h9v] at this; exact this : Own W3 bz 3 1 (.slice A9' (K ++ [j]).length c9') (((K ++ [j]).map Int.ofNat).map ic))
            have of10 := Lib.hid (by have := h10P.1; rw [h10v] at this; exact this : Own W3 bz 103 4 (.slice A10' (K ++ [j]).length c10') (((K ++ [j]).map (wayT l b)).map vcl))
            clear h9P h10P
            have hbl3 : Below bz w14 W3 := hstf.below (fun k hk3 => by
              obtain ⟨jj, hjj⟩ := hk3
              match jj, hjj with
              | 0, h => exact h.elim
              | 1, h => exact h.elim
              | 2, h => exact h.elim
              | 3, h => exact (hw9.out k h).1
              | 4, h => exact h.elim
              | 5, h => exact h.elim
              | 6, h => exact h.elim
              | 7, h => exact (hw10.out k h).1
              | n + 8, h => exact h.elim) hbzw.out
            clear hstf
            have X15 := Lib.hid (bx_low X14.out hbl3 (by have := hg2.out; omega))
            have Y15 := Lib.hid (bx_low Y14.out hbl3 (by have := hg2.out; omega))
            have b15 := Lib.hid (b14.out.trans (hbl3.mono (by rw [hbz0.out]; exact Nat.le_refl _)))
            have hsz15 := Lib.hid (Nat.le_trans hbzw.out hbl3.size)
            have hne15 := Lib.hid (own_ne of9.out of10.out (by decide))
            clear hbl3 X14 Y14 b14 hsz14
            have s0 : a.tmps.getD 0 undef = lv l (some ⟨bP, oP, none⟩) c B d := hk 0 (by kernel_rfl)
            have s1 : a.tmps.getD 1 undef = .slice (some ⟨bI, oI, none⟩) l.bs.length e := hk 1 (by kernel_rfl)
            have s2 : a.tmps.getD 2 undef = .agg (A16 (owF l l.n)) := hk 2 (by kernel_rfl)
            have s3 : a.tmps.getD 3 undef = .int .i64 b := hk 3 (by kernel_rfl)
            have s4 : a.tmps.getD 4 undef = .pointer (some ⟨w.heap.size, 0, none⟩) := hk 4 (by kernel_rfl)
            have s6 : a.tmps.getD 6 undef = .pointer (some ⟨g1, 0, none⟩) := hk 6 (by kernel_rfl)
            have s8 : a.tmps.getD 8 undef = .int .i64 0 := hk 8 (by kernel_rfl)
            have s11 : a.tmps.getD 11 undef = .int .i64 j := hk 11 (by kernel_rfl)
            have s12 : a.tmps.getD 12 undef = .pointer (some ⟨wo.heap.size, 0, none⟩) := hk 12 (by kernel_rfl)
            have s13 : a.tmps.getD 13 undef = .pointer (some ⟨pV, 0, none⟩) := hk 13 (by kernel_rfl)
            have s17 : a.tmps.getD 17 undef = .pointer (some ⟨w.heap.size, 1, none⟩) := hk 17 (by kernel_rfl)
            have s18 : a.tmps.getD 18 undef = .slice (some ⟨bP, oP, none⟩) l.plans.length c := hk 18 (by kernel_rfl)
            have s19 : a.tmps.getD 19 undef = .int .i64 b := hk 19 (by kernel_rfl)
            have s20 : a.tmps.getD 20 undef = .pointer (some ⟨bP, oP + b * 2, none⟩) := hk 20 (by kernel_rfl)
            have s21 : a.tmps.getD 21 undef = .pointer (some ⟨bP, oP + b * 2 + 1, none⟩) := hk 21 (by kernel_rfl)
            have s22 : a.tmps.getD 22 undef = .slice (some ⟨bS8, oS8, none⟩) p.ports.length c2 := hk 22 (by kernel_rfl)
            have s23 : a.tmps.getD 23 undef = .int .i64 p.ports.length := hk 23 (by kernel_rfl)
            have s24 : a.tmps.getD 24 undef = .int .i64 j := hk 24 (by kernel_rfl)
            have s5 : a.tmps.getD 5 undef = undef := hk 5 (by kernel_rfl)
            have s7 : a.tmps.getD 7 undef = undef := hk 7 (by kernel_rfl)
            have s15 : a.tmps.getD 15 undef = undef := hk 15 (by kernel_rfl)
            have s16 : a.tmps.getD 16 undef = undef := hk 16 (by kernel_rfl)
            have s64 : a.tmps.getD 64 undef = undef := hk 64 (by kernel_rfl)
            have s65 : a.tmps.getD 65 undef = undef := hk 65 (by kernel_rfl)
            have s66 : a.tmps.getD 66 undef = undef := hk 66 (by kernel_rfl)
            have s67 : a.tmps.getD 67 undef = undef := hk 67 (by kernel_rfl)
            have s68 : a.tmps.getD 68 undef = undef := hk 68 (by kernel_rfl)
            have s69 : a.tmps.getD 69 undef = undef := hk 69 (by kernel_rfl)
            have s70 : a.tmps.getD 70 undef = undef := hk 70 (by kernel_rfl)
            have s71 : a.tmps.getD 71 undef = undef := hk 71 (by kernel_rfl)
            have s72 : a.tmps.getD 72 undef = undef := hk 72 (by kernel_rfl)
            have s73 : a.tmps.getD 73 undef = undef := hk 73 (by kernel_rfl)
            have s74 : a.tmps.getD 74 undef = undef := hk 74 (by kernel_rfl)
            have s9 : a.tmps.getD 9 undef = .slice A9' (K ++ [j]).length c9' := h9v
            have s10 : a.tmps.getD 10 undef = .slice A10' (K ++ [j]).length c10' := h10v
            clear hk h9v h10v
            obtain ⟨tm, df⟩ := a
            have e := arr_out tm 75 hn
            replace e : tm = #[tm.getD 0 undef, tm.getD 1 undef, tm.getD 2 undef, tm.getD 3 undef, tm.getD 4 undef, tm.getD 5 undef, tm.getD 6 undef, tm.getD 7 undef, tm.getD 8 undef, tm.getD 9 undef, tm.getD 10 undef, tm.getD 11 undef, tm.getD 12 undef, tm.getD 13 undef, tm.getD 14 undef, tm.getD 15 undef, tm.getD 16 undef, tm.getD 17 undef, tm.getD 18 undef, tm.getD 19 undef, tm.getD 20 undef, tm.getD 21 undef, tm.getD 22 undef, tm.getD 23 undef, tm.getD 24 undef, tm.getD 25 undef, tm.getD 26 undef, tm.getD 27 undef, tm.getD 28 undef, tm.getD 29 undef, tm.getD 30 undef, tm.getD 31 undef, tm.getD 32 undef, tm.getD 33 undef, tm.getD 34 undef, tm.getD 35 undef, tm.getD 36 undef, tm.getD 37 undef, tm.getD 38 undef, tm.getD 39 undef, tm.getD 40 undef, tm.getD 41 undef, tm.getD 42 undef, tm.getD 43 undef, tm.getD 44 undef, tm.getD 45 undef, tm.getD 46 undef, tm.getD 47 undef, tm.getD 48 undef, tm.getD 49 undef, tm.getD 50 undef, tm.getD 51 undef, tm.getD 52 undef, tm.getD 53 undef, tm.getD 54 undef, tm.getD 55 undef, tm.getD 56 undef, tm.getD 57 undef, tm.getD 58 undef, tm.getD 59 undef, tm.getD 60 undef, tm.getD 61 undef, tm.getD 62 undef, tm.getD 63 undef, tm.getD 64 undef, tm.getD 65 undef, tm.getD 66 undef, tm.getD 67 undef, tm.getD 68 undef, tm.getD 69 undef, tm.getD 70 undef, tm.getD 71 undef, tm.getD 72 undef, tm.getD 73 undef, tm.getD 74 undef] := e
            simp only at s0 s1 s2 s3 s4 s6 s8 s11 s12 s13 s17 s18 s19 s20 s21 s22 s23 s24 s5 s7 s15 s16 s64 s65 s66 s67 s68 s69 s70 s71 s72 s73 s74 s9 s10 hdf
            rw [s0, s1, s2, s3, s4, s6, s8, s11, s12, s13, s17, s18, s19, s20, s21, s22, s23, s24, s5, s7, s15, s16, s64, s65, s66, s67, s68, s69, s70, s71, s72, s73, s74, s9, s10] at e
            subst hdf
            clear s0 s1 s2 s3 s4 s6 s8 s11 s12 s13 s17 s18 s19 s20 s21 s22 s23 s24 s5 s7 s15 s16 s64 s65 s66 s67 s68 s69 s70 s71 s72 s73 s74 s9 s10 hn
            generalize tm.getD 14 undef = u14 at e
            generalize tm.getD 25 undef = u25 at e
            generalize tm.getD 26 undef = u26 at e
            generalize tm.getD 27 undef = u27 at e
            generalize tm.getD 28 undef = u28 at e
            generalize tm.getD 29 undef = u29 at e
            generalize tm.getD 30 undef = u30 at e
            generalize tm.getD 31 undef = u31 at e
            generalize tm.getD 32 undef = u32 at e
            generalize tm.getD 33 undef = u33 at e
            generalize tm.getD 34 undef = u34 at e
            generalize tm.getD 35 undef = u35 at e
            generalize tm.getD 36 undef = u36 at e
            generalize tm.getD 37 undef = u37 at e
            generalize tm.getD 38 undef = u38 at e
            generalize tm.getD 39 undef = u39 at e
            generalize tm.getD 40 undef = u40 at e
            generalize tm.getD 41 undef = u41 at e
            generalize tm.getD 42 undef = u42 at e
            generalize tm.getD 43 undef = u43 at e
            generalize tm.getD 44 undef = u44 at e
            generalize tm.getD 45 undef = u45 at e
            generalize tm.getD 46 undef = u46 at e
            generalize tm.getD 47 undef = u47 at e
            generalize tm.getD 48 undef = u48 at e
            generalize tm.getD 49 undef = u49 at e
            generalize tm.getD 50 undef = u50 at e
            generalize tm.getD 51 undef = u51 at e
            generalize tm.getD 52 undef = u52 at e
            generalize tm.getD 53 undef = u53 at e
            generalize tm.getD 54 undef = u54 at e
            generalize tm.getD 55 undef = u55 at e
            generalize tm.getD 56 undef = u56 at e
            generalize tm.getD 57 undef = u57 at e
            generalize tm.getD 58 undef = u58 at e
            generalize tm.getD 59 undef = u59 at e
            generalize tm.getD 60 undef = u60 at e
            generalize tm.getD 61 undef = u61 at e
            generalize tm.getD 62 undef = u62 at e
            generalize tm.getD 63 undef = u63 at e
            subst e
            simp only [Exit.inBlock, Exit.then]
            go_wp2_with fail
            go_roundw
            case rel => exact ⟨j + 1, by omega, by go_num, by rw [hs2.out]; exact of9.out, by rw [hs2.out]; exact of10.out, hne15.out, hsz15.out, X15.out, Y15.out, b15.out⟩
            case measure => simp [intOf]; omega
    · obtain rfl : j = p.ports.length := by omega
      have hsl := Lib.hid (show SlV wo A10 (K.map fun x => vt (wayT l b x)) from (by have := ho10.sl (by decide); rw [List.map_map] at this; show Sl wo 4 A10 ((K.map fun x => vt (wayT l b x)).map V.cells); rw [List.map_map]; exact this))
      have hall := Lib.hid (show (K.map fun x => vt (wayT l b x)).all V.ok = true by
        rw [List.all_eq_true]
        intro v hv
        obtain ⟨k, hk, rfl⟩ := List.mem_map.1 hv
        rw [← hK.out] at hk
        unfold fitsTo at hk
        rw [List.mem_filter, List.mem_range] at hk
        exact way_ok HO.out HB.out (by rw [hp.out]; exact hk.1) hk.2)
      have hroot := Lib.hid (show rootT l b = firstMin (wayT l b) K none by rw [rootT_fits HO.out HB.out, hp.out, hK.out])
      have R9 := Lib.hid (Row.own ho9 (by decide))
      have hbW := Lib.hid (bt B1.out hb)
      have hKl := Lib.hid (show K.length ≤ 1000 by omega)
      clear ho9 ho10 hne hX hY hb hsz2 hs1
      rcases Nat.eq_zero_or_pos K.length with h0 | h0
      · have hnone : rootT l b = none := by rw [hroot.out, List.length_eq_zero_iff.1 h0]; rfl
        have hBs := Lib.hid (show ∀ W, Calls Try.prog 51 #[.slice A10 K.length c10] W (fun en w' => en = .returned (.tuple #[.int .i64 0, .int .i64 4]) ∧ Below W.heap.size W w') from fun W => by rw [h0]; exact best_none A10 c10 W)
        replace h0 := Lib.hid h0
        replace hnone := Lib.hid hnone
        go_wp2_with fail
        go_at_call 51
        (with_reducible refine (hBs.out _).mono ?_)
        rintro en w30 ⟨rfl, hb30⟩
        have B30 := Lib.hid (bt hbW.out hb30)
        clear hb30 hsl hall R9
        go_wp2_with fail
        go_ret
        exact ⟨by unfold rootN; rw [hnone.out]; rfl, B30.out⟩
      · have hlt := bestI_lt (K.map fun x => vt (wayT l b x)) K.length (by rw [List.length_map]; omega) (by rw [List.length_map]; omega)
        rw [List.length_map] at hlt
        obtain ⟨k, hk⟩ : ∃ k, K[bestI (K.map fun x => vt (wayT l b x)) K.length]? = some k := ⟨_, List.getElem?_eq_getElem hlt⟩
        have hsome := Lib.hid (show rootT l b = some k by rw [hroot.out, first_all (wayT l b) K h0]; exact hk)
        have hBs := Lib.hid (fun (W : World) (hW : Below wo.heap.size wo W) => best_good A10 c10 (K.map fun x => vt (wayT l b x)) W (by rw [List.length_map]; have := hKl.out; omega) (by rw [List.length_map]; omega) (hsl.out.below hW) hall.out)
        rw [List.length_map] at hBs
        obtain ⟨bi, hbi⟩ : ∃ bi, bestI (K.map fun x => vt (wayT l b x)) K.length = bi := ⟨_, rfl⟩
        rw [hbi] at hBs hlt hk
        have hbl3 : (bi : Int) < (K.length : Int) := by omega
        replace hbi := Lib.hid hbi
        replace hk := Lib.hid hk
        go_wp2_with fail
        go_at_call 51
        (with_reducible refine (hBs.out _ (Below.refl _ _)).mono ?_)
        rintro en w30 ⟨rfl, hb30⟩
        have B30 := Lib.hid (bt hbW.out hb30)
        obtain ⟨bS, oS, hAS, hbS, rr0⟩ := Row.iat (R9.out.below hb30) (k := bi) (x := (k : Int)) (by rw [List.getElem?_map, hk.out]; rfl)
        subst hAS
        clear hb30 hsl hall R9 hBs
        go_wp2_with fail
        go_ret
        exact ⟨by unfold rootN; rw [hsome.out]; rfl, B30.out⟩
end Go.Proofs.Ytplgaenfcaphnaa.LanP
