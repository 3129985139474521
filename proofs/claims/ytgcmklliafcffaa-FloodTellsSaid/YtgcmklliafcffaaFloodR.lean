/-
  Contracts of flood.Reach, Steps.
-/
import Derived.Test.YtgcmklliafcffaaFloodO
import Derived.Test.YtgcmklliafcffaaFloodQ
import Derived.Shelf.Sort.Plain
import Derived.BigRegion
namespace Go.Proofs.Ytgcmklliafcffaa.LanP
open Go.RowKit Go.Sort Go.Proofs.Ytgcmklliafcffaa.SliceP Go.Proofs.Ytgcmklliafcffaa.BoxP
open Go.Proofs.Ytgcmklliafcffaa.IntP (RowI SlI OwnI)
open Go.Proofs.Ytgcmklliafcffaa.BoolP (RowB SlB OwnB)
open Go.Proofs.Ytgcmklliafcffaa.MacP (arr_out Wrote wp_region_ends outM)
set_option linter.unusedVariables false
set_option maxRecDepth 100000
theorem op_ids (l : L) (O : List (List Bool)) : (l.op O).ids = l.ids := by
  unfold L.ids L.op opsTo
  simp only
  apply List.ext_getElem?
  intro i
  rw [List.getElem?_map, List.getElem?_map, List.getElem?_map]
  by_cases h : i < l.plans.length
  · rw [List.getElem?_range h, plan_get h]; rfl
  · rw [List.getElem?_eq_none (by simp; omega), List.getElem?_eq_none (by omega)]; rfl
theorem op_pok {n : Int} {p : P} {r : List Bool} (h : P.ok n p = true) : P.ok n (opP p r) = true := by
  unfold P.ok at h ⊢
  simp only [Bool.and_eq_true, decide_eq_true_eq, List.all_eq_true] at h ⊢
  refine ⟨h.1, ?_, ?_⟩
  · show 1 ≤ (opP p r).ports.length ∧ (opP p r).ports.length ≤ 8
    unfold opP
    rw [opTo_len]
    exact h.2.1
  · intro x hx
    obtain ⟨k, hk, rfl⟩ := mem_opX.1 hx
    have h9 := h.2.2 (p.ports.getD k default) (by rw [List.getD_eq_getElem?_getD, List.getElem?_eq_getElem hk]; exact List.getElem_mem hk)
    unfold lkB at h9 ⊢
    exact h9
theorem op_ok {l : L} (O : List (List Bool)) (h : l.ok = true) : (l.op O).ok = true := by
  unfold L.ok L.okU L.plansB L.hostsB at h ⊢
  rw [op_ids]
  simp only [Bool.and_eq_true, decide_eq_true_eq, List.all_eq_true] at h ⊢
  refine ⟨h.1, ⟨?_, h.2.1.2.1, ?_⟩, ?_⟩
  · rw [op_len]; exact h.2.1.1
  · intro p hp
    obtain ⟨b, hb, rfl⟩ := mem_op.1 hp
    exact op_pok (h.2.1.2.2 _ (pl_mem hb))
  · exact ⟨by show (0 : Nat) ≤ 8; omega, rfl, fun x hx => by cases hx⟩
theorem op_small {l : L} (O : List (List Bool)) (h : Small l) : Small (l.op O) := ⟨by rw [op_len]; exact h.plans, fun p hp => by
  obtain ⟨b, hb, rfl⟩ := mem_op.1 hp
  unfold opP
  rw [opTo_len]
  exact h.ports _ (pl_mem hb), by show (0 : Nat) ≤ _; omega⟩
theorem whyO_zero {l : L} {O : List (List Bool)} {ss : List Int} (h : whyO l O ss = 0) : l.ok = true ∧ rowsB l O = true ∧ ∀ x ∈ ss, 0 ≤ x ∧ x < l.segs := by
  unfold whyO at h
  by_cases h1 : (l.ok && rowsB l O) = true
  · rw [if_pos h1] at h
    by_cases h2 : ss.any (outB l) = true
    · rw [if_pos h2] at h; omega
    · rw [Bool.and_eq_true] at h1
      refine ⟨h1.1, h1.2, fun x hx => ?_⟩
      have := mt List.any_eq_true.2 (by simpa using h2)
      have hx2 : ¬ outB l x = true := fun q => h2 (List.any_eq_true.2 ⟨x, hx, q⟩)
      unfold outB at hx2
      simp only [Bool.or_eq_true, decide_eq_true_eq] at hx2
      omega
  · rw [if_neg h1] at h; omega
theorem up_ext : ∀ {a b : List Int}, a.Pairwise (· < ·) → b.Pairwise (· < ·) → (∀ x, x ∈ a ↔ x ∈ b) → a = b
  | [], [], _, _, _ => rfl
  | [], y :: b, _, _, h => by have := (h y).2 (by simp); cases this
  | x :: a, [], _, _, h => by have := (h x).1 (by simp); cases this
  | x :: a, y :: b, ha, hb, h => by
    rw [List.pairwise_cons] at ha hb
    have e : x = y := by
      have h1 := (h x).1 (by simp)
      have h2 := (h y).2 (by simp)
      rcases List.mem_cons.1 h1 with h3 | h3
      · exact h3
      · rcases List.mem_cons.1 h2 with h4 | h4
        · exact h4.symm
        · have := hb.1 x h3; have := ha.1 y h4; omega
    subst e
    congr 1
    refine up_ext ha.2 hb.2 fun z => ⟨fun hz => ?_, fun hz => ?_⟩
    · rcases List.mem_cons.1 ((h z).1 (by simp [hz])) with h3 | h3
      · have := ha.1 z hz; omega
      · exact h3
    · rcases List.mem_cons.1 ((h z).2 (by simp [hz])) with h3 | h3
      · have := hb.1 z hz; omega
      · exact h3
theorem sort_up {Q : List Int} (h : Q.Nodup) : (Q.mergeSort fun x y => decide (x ≤ y)).Pairwise (· < ·) := by
  have hp := List.mergeSort_perm Q (fun x y => decide (x ≤ y))
  have hn : (Q.mergeSort fun x y => decide (x ≤ y)).Nodup := hp.nodup_iff.2 h
  have hs := List.pairwise_mergeSort (le := fun x y : Int => decide (x ≤ y)) (fun a b c h1 h2 => by simp only [decide_eq_true_eq] at *; omega) (fun a b => by simp only [Bool.or_eq_true, decide_eq_true_eq]; omega) Q
  have hd := List.nodup_iff_pairwise_ne.1 hn
  exact (hs.and hd).imp (fun ⟨h1, h2⟩ => by simp only [decide_eq_true_eq] at h1; omega)
theorem reach_part {l : L} (hf : l.fit) {f : Int} (h0 : 0 ≤ f) (h1 : f < l.segs) {Q : List Int} (hn : Q.Nodup) (hQ : ∀ x, x ∈ Q ↔ (0 ≤ x ∧ x < l.segs ∧ 0 ≤ l.dst f x)) : (Q.mergeSort fun x y => decide (x ≤ y)) = l.part f := by
  have hs : (l.n : Int) = l.segs := by have := hf.1; unfold L.n; omega
  refine up_ext (sort_up hn) (part_up l f) fun x => ?_
  rw [(List.mergeSort_perm Q _).mem_iff, hQ, mem_part]
  constructor
  · rintro ⟨a, b, c⟩; exact ⟨⟨a, by omega⟩, (dst_lab hf h0 h1 (dst_is hf h0 h1) a b).1 c⟩
  · rintro ⟨⟨a, b⟩, c⟩; exact ⟨a, by omega, (dst_lab hf h0 h1 (dst_is hf h0 h1) a (by omega)).2 c⟩
/-- Reach's closure. -/
structure RI (B r : Nat) (T : List (Int × Int)) (σ : Nat → Prop) (v : Value) (W : World) : Prop where
  b : Bx W r 43 #[v]
  own : Own W B 3 1 v ((T.map Prod.fst).map ic)
  σis : ∀ b, σ b ↔ b = r ∨ v.ownBlock = some b
  nr : v.ownBlock ≠ some r
def RT (B r : Nat) (T : List (Int × Int)) (σ : Nat → Prop) (W : World) : Prop := B ≤ W.heap.size ∧ ∃ v, RI B r T σ v W
set_option maxHeartbeats 4000000 in
theorem r_call {B r : Nat} {T : List (Int × Int)} {σ : Nat → Prop} {W : World} {x : Int × Int} (hT : T.length < 1000) (h : RT B r T σ W) :
    Calls Try.prog 54 #[.int .i64 x.1, .int .i64 x.2, .pointer (some ⟨r, 0, none⟩)] W fun e W' => e = .returned (.tuple #[]) ∧ ∃ σ', RT B r (T ++ [x]) σ' W' ∧ (∀ b, σ' b → σ b ∨ W.heap.size ≤ b) ∧ Stay σ W W' := by
  obtain ⟨x1, x2⟩ := x
  obtain ⟨hBW, v, h⟩ := h
  obtain ⟨Q, hQ⟩ : ∃ Q, T.map Prod.fst = Q := ⟨_, rfl⟩
  have hQl : Q.length < 1000 := by rw [← hQ, List.length_map]; exact hT
  have ho := h.own
  rw [hQ] at ho
  obtain ⟨A3, c3, hv3⟩ := own_form ho
  subst hv3
  have H := Lib.hid h
  obtain ⟨w9, hw9⟩ : ∃ w9, w9 = W.alloc (.cells #[.int .i64 x1] 3) := ⟨_, rfl⟩
  have b9' : Below W.heap.size W w9 := by rw [hw9]; exact (Below.refl _ _).alloc (Nat.le_refl _) _
  have hsl := Lib.hid (show Sl w9 1 (some ⟨W.heap.size, 0, none⟩) ([x1].map ic) from bx_sl (T := 3) (vals := #[.int .i64 x1]) (by rw [hw9]; exact Bx.new _ _ _ rfl) rfl (by intro c hc; simp at hc; subst hc; rfl))
  have own9 := Lib.hid (ho.below b9')
  have bq9 := Lib.hid (h.b.below b9')
  have bb9 := Lib.hid b9'
  have hn1 : Hid ((Q.map ic).length + ([x1].map ic).length ≤ 1000000) := Lib.hid (by rw [List.length_map]; simp; omega)
  have hvl : Hid ((Q.map ic).length = Q.length) := Lib.hid (by rw [List.length_map])
  have hn0 : Hid (B ≤ w9.heap.size) := Lib.hid (Nat.le_trans hBW b9'.size)
  have q0 := h.b.c (i := 0) rfl
  have qz := h.b.lt
  have hQl9 := Lib.hid hQl
  replace hQ := Lib.hid hQ
  replace hT := Lib.hid hT
  clear h ho b9' hBW
  go_enter Try.func54, Try.ntmps54
  go_wp2_with (at_builtin
               rw [← hw9]
               (refine wpList_append_sl rfl (.tmp 5) (.tmp 7) 43 rfl IntP.elI (by rfl) own9.out (by rfl) (by rfl) hsl.out (wholeI _) (fun h => by cases h) hn1.out hn0.out ?_)
               intro v' w4 own1 grow1 new1
               clear q0 qz
               have hq4 := Lib.hid (bq9.out.grown grow1 (fun e => H.out.nr e.symm))
               have hq4f := hq4.out.f 0
               have hq4l := hq4.out.lt
               have hq4c := hq4.out.c (i := 0) rfl
               have own2 := Lib.hid (own_snoc own1)
               obtain ⟨A4, c4, hv4⟩ := own_form own2.out
               subst hv4
               clear own1
               replace new1 := Lib.hid new1
               replace grow1 := Lib.hid grow1)
  have hlk : (Q ++ [x1]).length = Q.length + 1 := by simp
  have g5 := setCell_grown w4 r 0 (.slice A4 (Q ++ [x1]).length c4)
  have nr4 : (Value.slice A4 (Q ++ [x1]).length c4).ownBlock ≠ some r := fun e => by
    rcases new1.out with h | h
    · exact H.out.nr (h.symm.trans e)
    · have e2 := Option.some.inj (h.symm.trans e)
      have := H.out.b.lt
      have := bb9.out.size
      omega
  have st5 := Lib.hid (show Stay σ W (w4.setCell ⟨r, 0, none⟩ (.slice A4 (Q ++ [x1]).length c4)) from ((Stay.of bb9.out).trans (Stay.grown grow1.out (fun b e => (H.out.σis b).2 (.inr e)))).trans (Stay.grown g5 (fun b e => by cases e; exact (H.out.σis r).2 (.inl rfl))))
  have ow5 := Lib.hid (own2.out.kept g5 (.inr nr4))
  have bq5 := Lib.hid (hq4.out.set 0 (.slice A4 (Q ++ [x1]).length c4))
  have sz5 := Lib.hid (show B ≤ (w4.setCell ⟨r, 0, none⟩ (.slice A4 (Q ++ [x1]).length c4)).heap.size from Nat.le_trans (Nat.le_trans hn0.out grow1.out.size) g5.size)
  have n5 := new1.out
  have z9 := bb9.out.size
  have hQ2 : (T ++ [((x1, x2) : Int × Int)]).map Prod.fst = Q ++ [x1] := by rw [List.map_append, hQ.out]; rfl
  rw [hlk] at st5 ow5 bq5 sz5 nr4 n5
  refine bodyPost_end (v := .tuple #[]) (by simp [results, Try.results54, go_sem]) rfl ⟨rfl, fun b => b = r ∨ (Value.slice A4 (Q.length + 1) c4).ownBlock = some b, ⟨sz5.out, _, ⟨bq5.out, by rw [hQ2]; exact ow5.out, fun b => Iff.rfl, nr4⟩⟩, fun b hb => ?_, st5.out⟩
  rcases hb with h | h
  · exact .inl ((H.out.σis b).2 (.inl h))
  · rcases n5 with q | q
    · exact .inl ((H.out.σis b).2 (.inr (q.symm.trans h)))
    · right
      have e := Option.some.inj (q.symm.trans h)
      omega
theorem r_tel {B r : Nat} {n : Int} : Tel Pr 54 #[.pointer (some ⟨r, 0, none⟩)] (fun x => 0 ≤ x.1 ∧ x.1 < n) (fun _ => False) (RT B r) :=
  ⟨enters_of Try.func54 (by kernel_rfl) rfl, fun T σ W h b hb => by
      obtain ⟨_, v, h⟩ := h
      rcases (h.σis b).1 hb with rfl | e
      · exact h.b.lt
      · exact (h.own.lt b e).2,
    fun T σ W S W' h k hS => by
      obtain ⟨hB, v, h⟩ := h
      exact ⟨Nat.le_trans hB k.size, v, k.bx h.b (fun e => (hS _ e).1 ((h.σis _).2 (.inl rfl))), own_stay h.own k (fun b e q => (hS b q).1 ((h.σis b).2 (.inr e))), h.σis, h.nr⟩,
    fun T σ W x hx hT h => r_call hT h⟩
end Go.Proofs.Ytgcmklliafcffaa.LanP
