/-
  Plain facts on rows of timers: which are right, one armed, and what is due.
-/
import Derived.Test.YtdieoecpacplmaaWheelG
import Derived.Test.YtdieoecpacplmaaWheelQ
namespace Go.Proofs.Ytdieoecpacplmaa.WheelP
open Go.Sort
set_option linter.unusedVariables false

def aheadP (x y : T) : Prop := x.due < y.due ∨ (x.due = y.due ∧ x.id < y.id)
instance (x y : T) : Decidable (aheadP x y) := by unfold aheadP; infer_instance
theorem cmpT_neg (x y : T) : cmpT x y < 0 ↔ aheadP x y := by
  unfold cmpT orI cmpI aheadP
  by_cases h1 : x.due < y.due
  · simp [h1]
  · by_cases h2 : y.due < x.due
    · simp [h1, h2]; omega
    · have h3 : x.due = y.due := by omega
      by_cases h4 : x.id < y.id
      · simp [h3, h4]
      · by_cases h5 : y.id < x.id
        · simp [h3, h4, h5]
        · simp [h3, h4, h5]
theorem cmpT_pos (x y : T) : 0 < cmpT x y ↔ aheadP y x := by
  unfold cmpT orI cmpI aheadP
  by_cases h1 : x.due < y.due
  · simp [h1]; omega
  · by_cases h2 : y.due < x.due
    · simp [h1, h2]
    · have h3 : x.due = y.due := by omega
      by_cases h4 : x.id < y.id
      · simp [h3, h4]; omega
      · by_cases h5 : y.id < x.id
        · simp [h3, h4, h5]
        · simp [h3, h4, h5]
theorem ahead_trans {x y z : T} (h : aheadP x y) (k : aheadP y z) : aheadP x z := by unfold aheadP at *; omega
theorem ahead_total {x y : T} (h : ¬ aheadP x y) (hi : x.id ≠ y.id) : aheadP y x := by unfold aheadP at *; omega
theorem ahead_irr (x : T) : ¬ aheadP x x := by unfold aheadP; omega
theorem ahead_asymm {x y : T} (h : aheadP x y) : ¬ aheadP y x := by unfold aheadP at *; omega
theorem ahead_anti {x y : T} (h : ¬ aheadP x y) (k : ¬ aheadP y x) : x = y := by
  obtain ⟨i, a⟩ := x
  obtain ⟨j, b⟩ := y
  unfold aheadP at *
  simp only at h k
  have : i = j ∧ a = b := by omega
  rw [this.1, this.2]

def Apart (x y : T) : Prop := aheadP x y ∧ x.id ≠ y.id
structure Good (l : List T) : Prop where
  len : l.length ≤ 64
  ok : ∀ x ∈ l, x.ok = true
  pw : l.Pairwise Apart
theorem has_false {l : List T} {id : Int} : hasI l id = false ↔ ∀ x ∈ l, x.id ≠ id := by
  unfold hasI
  rw [List.any_eq_false]
  simp
theorem has_true {l : List T} {id : Int} : hasI l id = true ↔ ∃ x ∈ l, x.id = id := by
  unfold hasI
  rw [List.any_eq_true]
  simp
theorem bad_false {l : List T} {k : Nat} {x : T} : badB l k x = false ↔ x.ok = true ∧ hasI (l.take k) x.id = false ∧ (0 < k → ¬ 0 < cmpT (l[k - 1]?.getD default) x) := by
  unfold badB
  cases x.ok <;> cases hasI (l.take k) x.id <;> simp
theorem rightK_succ {l : List T} {k : Nat} {x : T} (hx : l[k]? = some x) : rightK l (k + 1) = true ↔ rightK l k = true ∧ badB l k x = false := by
  unfold rightK
  rw [List.range_succ, List.all_append]
  simp [hx]
theorem right_pw {l : List T} : ∀ k, k ≤ l.length → rightK l k = true → (∀ x ∈ l.take k, x.ok = true) ∧ (l.take k).Pairwise Apart
  | 0, _, _ => by simp
  | k + 1, hk, h => by
    obtain ⟨x, hx⟩ : ∃ x, l[k]? = some x := ⟨_, List.getElem?_eq_getElem (by omega)⟩
    rw [rightK_succ hx] at h
    obtain ⟨h1, h2⟩ := right_pw k (by omega) h.1
    obtain ⟨b1, b2, b3⟩ := bad_false.1 h.2
    rw [has_false] at b2
    rw [List.take_add_one, hx]
    refine ⟨fun y hy => ?_, ?_⟩
    · rcases List.mem_append.1 hy with hy | hy
      · exact h1 y hy
      · obtain rfl : y = x := by simpa using hy
        exact b1
    · rw [List.pairwise_append]
      refine ⟨h2, by simp, fun y hy z hz => ?_⟩
      obtain rfl : z = x := by simpa using hz
      refine ⟨?_, b2 y hy⟩
      cases k with
      | zero => simp at hy
      | succ j =>
        obtain ⟨u, hu⟩ : ∃ u, l[j]? = some u := ⟨_, List.getElem?_eq_getElem (by omega)⟩
        have h3 := b3 (by omega)
        rw [show j + 1 - 1 = j by omega, hu, Option.getD_some, cmpT_pos] at h3
        have hum : u ∈ l.take (j + 1) := by rw [List.take_add_one, hu]; simp
        have h4 : aheadP u z := ahead_total h3 (Ne.symm (b2 u hum))
        rw [List.take_add_one, hu] at hy h2
        rcases List.mem_append.1 hy with hy | hy
        · rw [List.pairwise_append] at h2
          exact ahead_trans (h2.2.2 y hy u (by simp)).1 h4
        · obtain rfl : y = u := by simpa using hy
          exact h4
theorem good_of_right {l : List T} (h : rightB l = true) : Good l := by
  unfold rightB at h
  rw [Bool.and_eq_true, decide_eq_true_eq] at h
  have := right_pw l.length (Nat.le_refl _) h.2
  rw [List.take_length] at this
  exact ⟨h.1, this.1, this.2⟩
theorem right_of_good {l : List T} (h : Good l) : rightB l = true := by
  unfold rightB
  rw [Bool.and_eq_true, decide_eq_true_eq]
  refine ⟨h.len, ?_⟩
  have key : ∀ k, k ≤ l.length → rightK l k = true := by
    intro k
    induction k with
    | zero => intro _; rfl
    | succ k ih =>
      intro hk
      obtain ⟨x, hx⟩ : ∃ x, l[k]? = some x := ⟨_, List.getElem?_eq_getElem (by omega)⟩
      rw [rightK_succ hx]
      refine ⟨ih (by omega), bad_false.2 ⟨h.ok x (List.mem_of_getElem? hx), ?_, fun h0 => ?_⟩⟩
      · have hp := h.pw
        rw [← List.take_append_drop k l, List.pairwise_append] at hp
        rw [has_false]
        intro y hy
        refine (hp.2.2 y hy x ?_).2
        rw [List.mem_iff_getElem?]
        exact ⟨0, by rw [List.getElem?_drop]; exact hx⟩
      · obtain ⟨j, rfl⟩ : ∃ j, k = j + 1 := ⟨k - 1, by omega⟩
        obtain ⟨u, hu⟩ : ∃ u, l[j]? = some u := ⟨_, List.getElem?_eq_getElem (by omega)⟩
        rw [show j + 1 - 1 = j by omega, hu, Option.getD_some, cmpT_pos]
        have hp := h.pw
        rw [List.pairwise_iff_getElem] at hp
        have hj : j < l.length := by omega
        have hk' : j + 1 < l.length := by omega
        have := hp j (j + 1) hj hk' (by omega)
        rw [List.getElem?_eq_getElem hj] at hu
        rw [List.getElem?_eq_getElem hk'] at hx
        obtain rfl := Option.some.inj hu
        obtain rfl := Option.some.inj hx
        exact ahead_asymm this.1
  exact key l.length (Nat.le_refl _)
theorem Good.sub {l m : List T} (h : Good l) (hs : m.Sublist l) : Good m := ⟨Nat.le_trans hs.length_le h.len, fun x hx => h.ok x (hs.subset hx), h.pw.sublist hs⟩
theorem Good.sorted {l : List T} (h : Good l) : SortedT l := h.pw.imp fun {x y} h => by have h1 : aheadP x y := h.1; unfold aheadP at h1; omega
theorem ok_time {x : T} (h : x.ok = true) : timeB x.due = true := by unfold T.ok okB at h; rw [Bool.and_eq_true] at h; exact h.2
theorem ok_due {x : T} (h : x.ok = true) : 0 ≤ x.id ∧ 0 ≤ x.due ∧ x.due ≤ 1099511627776 := by
  unfold T.ok okB timeB at h
  simp only [Bool.and_eq_true, decide_eq_true_eq] at h
  exact h
theorem Good.times {l : List T} (h : Good l) : ∀ x ∈ l, timeB x.due = true := fun x hx => ok_time (h.ok x hx)

theorem without_sub (l : List T) (id : Int) : (without l id).Sublist l := List.filter_sublist
theorem without_mem {l : List T} {id : Int} {x : T} : x ∈ without l id ↔ x ∈ l ∧ x.id ≠ id := by unfold without; rw [List.mem_filter]; simp
theorem without_same {l : List T} {id : Int} (h : hasI l id = false) : without l id = l := by
  rw [has_false] at h
  unfold without
  rw [List.filter_eq_self]
  intro x hx; simpa using h x hx

/-- One put where it belongs. -/
def insT (x : T) : List T → List T
  | [] => [x]
  | y :: r => if aheadP x y then x :: y :: r else y :: insT x r
theorem insT_perm (x : T) : ∀ l : List T, List.Perm (insT x l) (x :: l)
  | [] => List.Perm.refl _
  | y :: r => by
    rw [insT]; split
    · exact List.Perm.refl _
    · exact (List.Perm.cons y (insT_perm x r)).trans (List.Perm.swap x y r)
theorem insT_length (x : T) (l : List T) : (insT x l).length = l.length + 1 := by rw [(insT_perm x l).length_eq]; rfl
theorem insT_apart (x : T) : ∀ l : List T, l.Pairwise Apart → (∀ y ∈ l, y.id ≠ x.id) → (insT x l).Pairwise Apart
  | [], _, _ => by simp [insT]
  | y :: r, h, hn => by
    rw [List.pairwise_cons] at h
    have hy := hn y (by simp)
    rw [insT]; split
    · rename_i hxy
      rw [List.pairwise_cons]
      refine ⟨fun z hz => ⟨?_, Ne.symm (hn z hz)⟩, List.pairwise_cons.2 h⟩
      rcases List.mem_cons.1 hz with rfl | hz
      · exact hxy
      · exact ahead_trans hxy (h.1 z hz).1
    · rename_i hxy
      rw [List.pairwise_cons]
      refine ⟨fun z hz => ?_, insT_apart x r h.2 fun z hz => hn z (by simp [hz])⟩
      rcases List.mem_cons.1 ((insT_perm x r).subset hz) with rfl | hz
      · exact ⟨ahead_total hxy (Ne.symm hy), hy⟩
      · exact h.1 z hz
theorem insT_good {x : T} {l : List T} (h : Good l) (hx : x.ok = true) (hn : ∀ y ∈ l, y.id ≠ x.id) (hl : l.length < 64) : Good (insT x l) :=
  ⟨by rw [insT_length]; omega, fun y hy => by
    rcases List.mem_cons.1 ((insT_perm x l).subset hy) with rfl | hy
    · exact hx
    · exact h.ok y hy, insT_apart x l h.pw hn⟩
theorem without_insT {x : T} : ∀ {l : List T}, (∀ y ∈ l, y.id ≠ x.id) → without (insT x l) x.id = l
  | [], _ => by simp [insT, without]
  | y :: r, hn => by
    have ih := without_insT (x := x) (l := r) fun z hz => hn z (by simp [hz])
    have hy := hn y (by simp)
    have hr : without r x.id = r := without_same (has_false.2 fun z hz => hn z (by simp [hz]))
    unfold without at *
    rw [insT]; split
    · rw [List.filter_cons, List.filter_cons]; simp [hy, hr]
    · rw [List.filter_cons, ih]; simp [hy]


theorem ltOf_eq (x y : T) : ltOf cmpT x y = decide (aheadP x y) := by
  unfold ltOf
  rw [Bool.eq_iff_iff, decide_eq_true_eq, decide_eq_true_eq]
  exact cmpT_neg x y

theorem swo : SWO (ltOf cmpT) where
  irrefl x := by rw [ltOf_eq]; simpa using ahead_irr x
  trans x y z h1 h2 := by rw [ltOf_eq, decide_eq_true_eq] at *; exact ahead_trans h1 h2
  ntrans x y z h1 h2 := by
    rw [ltOf_eq, decide_eq_false_iff_not] at *
    unfold aheadP at *; omega

theorem cmp_anti (x y : T) (h1 : ltOf cmpT x y = false) (h2 : ltOf cmpT y x = false) : x = y := by
  rw [ltOf_eq, decide_eq_false_iff_not] at *
  exact ahead_anti h1 h2
/-- In order. -/
def msort (l : List T) : List T := l.mergeSort fun x y => !(ltOf cmpT) y x
theorem msort_length (l : List T) : (msort l).length = l.length := by unfold msort; rw [List.length_mergeSort]
theorem msort_perm (l : List T) : List.Perm (msort l) l := List.mergeSort_perm _ _
theorem msort_pairs (l : List T) : (msort l).Pairwise fun x y => ¬ aheadP y x := by
  have := List.pairwise_mergeSort (le := fun x y => !(ltOf cmpT) y x) (fun a b c h1 h2 => by
    simp only [Bool.not_eq_true', ltOf_eq, decide_eq_false_iff_not] at *
    unfold aheadP at *; omega) (fun a b => by
    simp only [Bool.or_eq_true, Bool.not_eq_true', ltOf_eq, decide_eq_false_iff_not]
    unfold aheadP; omega) l
  refine this.imp fun {x y} h => ?_
  simp only [Bool.not_eq_true', ltOf_eq, decide_eq_false_iff_not] at h
  exact h
theorem arm_list {o b s a : List T} {x : T} (h : SplitE o x.due b s a) (ho : o.Pairwise Apart) (hn : ∀ y ∈ o, y.id ≠ x.id) : b ++ msort (s ++ [x]) ++ a = insT x o := by
  have p1 : List.Perm (b ++ msort (s ++ [x]) ++ a) (insT x o) := by
    refine List.Perm.trans ?_ (insT_perm x o).symm
    rw [← h.all]
    refine (((msort_perm (s ++ [x])).append_left b).append_right a).trans ?_
    have e : b ++ (s ++ [x]) ++ a = (b ++ s) ++ x :: a := by simp
    rw [e, show b ++ s ++ a = (b ++ s) ++ a from rfl]
    exact List.perm_middle
  have hpw := ho
  rw [← h.all, List.pairwise_append, List.pairwise_append] at hpw
  refine p1.eq_of_pairwise (le := fun x y => ¬ aheadP y x) (fun u v _ _ h2 h3 => ahead_anti h3 h2) ?_ ?_
  · rw [List.pairwise_append, List.pairwise_append]
    have hm : ∀ u ∈ msort (s ++ [x]), u.due = x.due := fun u hu => by
      rcases List.mem_append.1 ((msort_perm _).subset hu) with hu | hu
      · exact h.eq u hu
      · obtain rfl : u = x := by simpa using hu
        rfl
    refine ⟨⟨hpw.1.1.imp fun {u v} q => ahead_asymm q.1, msort_pairs _, fun u hu v hv => ?_⟩, hpw.2.1.imp fun {u v} q => ahead_asymm q.1, fun u hu v hv => ?_⟩
    · have h1 := h.lo u hu
      have h2 := hm v hv
      unfold aheadP; omega
    · have h2 := h.hi v hv
      rcases List.mem_append.1 hu with hu | hu
      · have h1 := h.lo u hu
        unfold aheadP; omega
      · have h1 := hm u hu
        unfold aheadP; omega
  · exact (insT_apart x o ho hn).imp fun {u v} q => ahead_asymm q.1

/-- What is due by a time, and what after it. -/
def leT (l : List T) (t : Int) : List T := l.filter fun x => decide (x.due ≤ t)
def gtT (l : List T) (t : Int) : List T := l.filter fun x => decide (t < x.due)
theorem split_le {l b s a : List T} {t : Int} (h : SplitE l t b s a) : leT l t = b ++ s ∧ gtT l t = a := by
  unfold leT gtT
  rw [← h.all, List.filter_append, List.filter_append, List.filter_append, List.filter_append]
  have b1 : b.filter (fun x => decide (x.due ≤ t)) = b := List.filter_eq_self.2 fun x hx => by have := h.lo x hx; simp; omega
  have s1 : s.filter (fun x => decide (x.due ≤ t)) = s := List.filter_eq_self.2 fun x hx => by have := h.eq x hx; simp; omega
  have a1 : a.filter (fun x => decide (x.due ≤ t)) = [] := List.filter_eq_nil_iff.2 fun x hx => by have := h.hi x hx; simp; omega
  have b2 : b.filter (fun x => decide (t < x.due)) = [] := List.filter_eq_nil_iff.2 fun x hx => by have := h.lo x hx; simp; omega
  have s2 : s.filter (fun x => decide (t < x.due)) = [] := List.filter_eq_nil_iff.2 fun x hx => by have := h.eq x hx; simp; omega
  have a2 : a.filter (fun x => decide (t < x.due)) = a := List.filter_eq_self.2 fun x hx => by have := h.hi x hx; simp; omega
  rw [b1, s1, a1, b2, s2, a2]
  simp
theorem le_gt : ∀ {l : List T} {t : Int}, SortedT l → leT l t ++ gtT l t = l
  | [], _, _ => rfl
  | x :: r, t, h => by
    have h' : (x :: r).Pairwise fun x y => x.due ≤ y.due := h
    rw [List.pairwise_cons] at h'
    have ih := le_gt (l := r) (t := t) h'.2
    unfold leT gtT at *
    rw [List.filter_cons, List.filter_cons]
    by_cases hx : x.due ≤ t
    · have hx2 : ¬ t < x.due := by omega
      simp [hx, hx2, ih]
    · have hx2 : t < x.due := by omega
      have e : r.filter (fun x => decide (x.due ≤ t)) = [] := List.filter_eq_nil_iff.2 fun y hy => by have := h'.1 y hy; simp; omega
      have e2 : r.filter (fun x => decide (t < x.due)) = r := List.filter_eq_self.2 fun y hy => by have := h'.1 y hy; simp; omega
      simp [hx, hx2, e, e2]
theorem leT_sub (l : List T) (t : Int) : (leT l t).Sublist l := List.filter_sublist
theorem gtT_sub (l : List T) (t : Int) : (gtT l t).Sublist l := List.filter_sublist
theorem leT_mem {l : List T} {t : Int} {x : T} : x ∈ leT l t ↔ x ∈ l ∧ x.due ≤ t := by unfold leT; rw [List.mem_filter]; simp
theorem gtT_mem {l : List T} {t : Int} {x : T} : x ∈ gtT l t ↔ x ∈ l ∧ t < x.due := by unfold gtT; rw [List.mem_filter]; simp
theorem le_take {l : List T} {t : Int} (h : SortedT l) : l.take (leT l t).length = leT l t := by
  have e := le_gt (t := t) h
  have h2 : (leT l t ++ gtT l t).take (leT l t).length = leT l t := List.take_left
  rwa [e] at h2
theorem gt_drop {l : List T} {t : Int} (h : SortedT l) : l.drop (leT l t).length = gtT l t := by
  have e := le_gt (t := t) h
  have h2 : (leT l t ++ gtT l t).drop (leT l t).length = gtT l t := List.drop_left
  rwa [e] at h2
theorem gt_gt (l : List T) {t u : Int} (h : t ≤ u) : gtT (gtT l t) u = gtT l u := by
  unfold gtT
  rw [List.filter_filter]
  congr 1
  funext x
  rw [Bool.eq_iff_iff]; simp; omega
theorem le_le {l : List T} {t u : Int} (h : t ≤ u) (hs : SortedT l) : leT l t ++ leT (gtT l t) u = leT l u := by
  have e : leT l u = leT (leT l t ++ gtT l t) u := by rw [le_gt hs]
  rw [e]
  conv => rhs; unfold leT
  rw [List.filter_append]
  congr 1
  exact (List.filter_eq_self.2 fun x hx => by have h1 := (leT_mem.1 hx).2; simp; omega).symm
theorem le_gt_len {l : List T} {t : Int} (hs : SortedT l) : (leT l t).length + (gtT l t).length = l.length := by
  have := congrArg List.length (le_gt (t := t) hs)
  rwa [List.length_append] at this
end Go.Proofs.Ytdieoecpacplmaa.WheelP
