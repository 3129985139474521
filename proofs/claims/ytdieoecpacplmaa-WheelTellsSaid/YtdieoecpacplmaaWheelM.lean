/-
  Plain facts on timers by the digits of their times.
-/
import Derived.Test.YtdieoecpacplmaaWheelE
namespace Go.Proofs.Ytdieoecpacplmaa.WheelP
set_option linter.unusedVariables false

def qt (n : Int) (p : Nat) : Int := n / (64 : Int) ^ p
theorem qt_succ (n : Int) (p : Nat) : qt n p = 64 * qt n (p + 1) + dig n p := by
  unfold qt dig
  rw [Int.pow_succ, ← Int.ediv_ediv_of_nonneg (Int.le_of_lt (Int.pow_pos (by decide)))]
  omega
theorem qt_mono {a b : Int} (h : a ≤ b) (p : Nat) : qt a p ≤ qt b p := Int.ediv_le_ediv (Int.pow_pos (by decide)) h
theorem qt_top {n : Int} (h : timeB n = true) : qt n 7 = 0 := by
  unfold timeB at h
  simp only [Bool.and_eq_true, decide_eq_true_eq] at h
  unfold qt
  have : (64 : Int) ^ 7 = 4398046511104 := by decide
  rw [this]; omega
theorem qt_zero (n : Int) : qt n 0 = n := by unfold qt; rw [Int.pow_zero, Int.ediv_one]
theorem dig_bd (n : Int) (p : Nat) : 0 ≤ dig n p ∧ dig n p < 64 := by unfold dig; omega

/-- The slots. -/
def slotsL (s : List T) (p : Nat) : List (List T) := (List.range 64).map (slotL s p)
theorem slotsL_length (s : List T) (p : Nat) : (slotsL s p).length = 64 := by simp [slotsL]
theorem slotsL_at (s : List T) (p j : Nat) (h : j < 64) : (slotsL s p)[j]? = some (slotL s p j) := by simp [slotsL, h]
theorem bucket_step (f : T → Int) (m : Int) : ∀ s : List T, s.Pairwise (fun x y => f x ≤ f y) → s.filter (fun x => decide (f x < m + 1)) = s.filter (fun x => decide (f x < m)) ++ s.filter (fun x => f x == m)
  | [], _ => rfl
  | x :: s, h => by
    rw [List.pairwise_cons] at h
    have ih := bucket_step f m s h.2
    rw [List.filter_cons, List.filter_cons, List.filter_cons]
    rcases Int.lt_trichotomy (f x) m with h1 | h1 | h1
    · have a : f x < m + 1 := by omega
      have b : (f x == m) = false := by simp; omega
      simp only [a, h1, b, decide_true, if_true, ih, List.cons_append]
      simp
    · have a : f x < m + 1 := by omega
      have b : ¬ f x < m := by omega
      have c : (f x == m) = true := by simp [h1]
      have e : s.filter (fun x => decide (f x < m)) = [] := by
        rw [List.filter_eq_nil_iff]
        intro y hy; have := h.1 y hy; simp; omega
      rw [e] at ih ⊢
      simp only [a, b, c, decide_true, decide_false, if_true, ih, List.nil_append]
      simp
    · have a : ¬ f x < m + 1 := by omega
      have b : ¬ f x < m := by omega
      have c : (f x == m) = false := by simp; omega
      simp only [a, b, c, decide_false, ih]
      simp
theorem buckets (f : T → Int) (s : List T) (h : s.Pairwise (fun x y => f x ≤ f y)) (h0 : ∀ x ∈ s, 0 ≤ f x) : ∀ m : Nat, ((List.range m).map fun (j : Nat) => s.filter fun x => f x == (j : Int)).flatten = s.filter fun x => decide (f x < (m : Int))
  | 0 => by
    rw [List.range_zero, List.map_nil, List.flatten_nil]
    symm
    rw [List.filter_eq_nil_iff]
    intro x hx; have := h0 x hx; simp; omega
  | m + 1 => by
    rw [List.range_succ, List.map_append, List.flatten_append, buckets f s h h0 m]
    simp only [List.map_cons, List.map_nil, List.flatten_cons, List.flatten_nil, List.append_nil]
    have := bucket_step f m s h
    rw [show ((m + 1 : Nat) : Int) = (m : Int) + 1 by omega]
    exact this.symm
theorem slots_flatten (s : List T) (p : Nat) (h : s.Pairwise (fun x y => dig x.due p ≤ dig y.due p)) : (slotsL s p).flatten = s := by
  have := buckets (fun x => dig x.due p) s h (fun x _ => (dig_bd x.due p).1) 64
  unfold slotsL slotL
  rw [this, List.filter_eq_self]
  intro x _
  simpa using (dig_bd x.due p).2
theorem slots_cut (s : List T) (p d : Nat) (hd : d < 64) (h : s.Pairwise (fun x y => dig x.due p ≤ dig y.due p)) : ((slotsL s p).take d).flatten ++ slotL s p d ++ ((slotsL s p).drop (d + 1)).flatten = s := by
  have e := slots_flatten s p h
  have hl : d < (slotsL s p).length := by rw [slotsL_length]; exact hd
  have hg : (slotsL s p)[d] = slotL s p d := by
    have := slotsL_at s p d hd
    rw [List.getElem?_eq_getElem hl] at this; exact Option.some.inj this
  rw [← List.take_append_drop d (slotsL s p), List.drop_eq_getElem_cons hl, hg, List.flatten_append, List.flatten_cons, ← List.append_assoc] at e
  exact e
theorem slots_take_mem {s : List T} {p d : Nat} {x : T} (h : x ∈ ((slotsL s p).take d).flatten) : x ∈ s ∧ dig x.due p < (d : Int) := by
  obtain ⟨l, hl, hx⟩ := List.mem_flatten.1 h
  rw [List.mem_take_iff_getElem] at hl
  obtain ⟨j, hj, rfl⟩ := hl
  rw [slotsL_length] at hj
  have hg : (slotsL s p)[j]'(by rw [slotsL_length]; omega) = slotL s p j := by
    have := slotsL_at s p j (by omega)
    rw [List.getElem?_eq_getElem (by rw [slotsL_length]; omega)] at this; exact Option.some.inj this
  rw [hg] at hx
  unfold slotL at hx
  rw [List.mem_filter] at hx
  refine ⟨hx.1, ?_⟩
  have := hx.2
  simp at this; omega
theorem slots_drop_mem {s : List T} {p d : Nat} {x : T} (h : x ∈ ((slotsL s p).drop (d + 1)).flatten) : x ∈ s ∧ (d : Int) < dig x.due p := by
  obtain ⟨l, hl, hx⟩ := List.mem_flatten.1 h
  rw [List.mem_drop_iff_getElem] at hl
  obtain ⟨j, hj, rfl⟩ := hl
  rw [slotsL_length] at hj
  have hg : (slotsL s p)[d + 1 + j]'(by rw [slotsL_length]; omega) = slotL s p (d + 1 + j) := by
    have := slotsL_at s p (d + 1 + j) (by omega)
    rw [List.getElem?_eq_getElem (by rw [slotsL_length]; omega)] at this; exact Option.some.inj this
  rw [hg] at hx
  unfold slotL at hx
  rw [List.mem_filter] at hx
  refine ⟨hx.1, ?_⟩
  have := hx.2
  simp at this; omega

/-- How far a split has come: places from p on are done. -/
structure SplitI (l : List T) (t : Int) (p : Nat) (b s a : List T) : Prop where
  all : b ++ s ++ a = l
  lo : ∀ x ∈ b, qt x.due p < qt t p
  eq : ∀ x ∈ s, qt x.due p = qt t p
  hi : ∀ x ∈ a, qt t p < qt x.due p
def SortedT (l : List T) : Prop := l.Pairwise fun x y => x.due ≤ y.due
theorem split_start (l : List T) (t : Int) (ht : timeB t = true) (hl : ∀ x ∈ l, timeB x.due = true) : SplitI l t 7 [] l [] :=
  ⟨by simp, fun x h => by simp at h, fun x h => by rw [qt_top (hl x h), qt_top ht], fun x h => by simp at h⟩
theorem split_dig {l b s a : List T} {t : Int} {p : Nat} (h : SplitI l t (p + 1) b s a) (hs : SortedT l) : s.Pairwise (fun x y => dig x.due p ≤ dig y.due p) := by
  have hss : s.Pairwise fun x y => x.due ≤ y.due := by
    have hs : l.Pairwise _ := hs
    rw [← h.all, List.pairwise_append, List.pairwise_append] at hs
    exact hs.1.2.1
  refine hss.imp_of_mem fun {x y} hx hy hxy => ?_
  have e1 := h.eq x hx
  have e2 := h.eq y hy
  have e3 := qt_succ x.due p
  have e4 := qt_succ y.due p
  have e5 := qt_mono hxy p
  omega
theorem split_step {l b s a : List T} {t : Int} {p d : Nat} (h : SplitI l t (p + 1) b s a) (hs : SortedT l) (hd : dig t p = (d : Int)) (hd64 : d < 64) :
    SplitI l t p (b ++ ((slotsL s p).take d).flatten) (slotL s p d) (((slotsL s p).drop (d + 1)).flatten ++ a) := by
  have hc := slots_cut s p d hd64 (split_dig h hs)
  have et := qt_succ t p
  refine ⟨?_, fun x hx => ?_, fun x hx => ?_, fun x hx => ?_⟩
  · have e : b ++ ((slotsL s p).take d).flatten ++ slotL s p d ++ (((slotsL s p).drop (d + 1)).flatten ++ a) = b ++ (((slotsL s p).take d).flatten ++ slotL s p d ++ ((slotsL s p).drop (d + 1)).flatten) ++ a := by simp [List.append_assoc]
    rw [e, hc, h.all]
  · have ex := qt_succ x.due p
    have bx := dig_bd x.due p
    have bt := dig_bd t p
    rcases List.mem_append.1 hx with hx | hx
    · have := h.lo x hx; omega
    · have h1 := slots_take_mem hx
      have := h.eq x h1.1; omega
  · have ex := qt_succ x.due p
    unfold slotL at hx
    rw [List.mem_filter] at hx
    have h1 := h.eq x hx.1
    have h2 := hx.2
    simp at h2
    omega
  · have ex := qt_succ x.due p
    have bx := dig_bd x.due p
    have bt := dig_bd t p
    rcases List.mem_append.1 hx with hx | hx
    · have h1 := slots_drop_mem hx
      have := h.eq x h1.1; omega
    · have := h.hi x hx; omega
theorem split_len {l b s a : List T} {t : Int} {p : Nat} (h : SplitI l t p b s a) : b.length + s.length + a.length = l.length := by
  rw [← h.all, List.length_append, List.length_append]
theorem slots_len (s : List T) (p d : Nat) (hd : d < 64) (h : s.Pairwise (fun x y => dig x.due p ≤ dig y.due p)) : ((slotsL s p).take d).flatten.length + (slotL s p d).length + ((slotsL s p).drop (d + 1)).flatten.length = s.length := by
  have := congrArg List.length (slots_cut s p d hd h)
  rw [List.length_append, List.length_append] at this; exact this
theorem split_mem {l b s a : List T} {t : Int} {p : Nat} (h : SplitI l t p b s a) : ∀ x ∈ s, x ∈ l := fun x hx => by rw [← h.all]; simp [hx]

/-- What split tells. -/
structure SplitE (l : List T) (t : Int) (b s a : List T) : Prop where
  all : b ++ s ++ a = l
  lo : ∀ x ∈ b, x.due < t
  eq : ∀ x ∈ s, x.due = t
  hi : ∀ x ∈ a, t < x.due
theorem split_end {l b s a : List T} {t : Int} (h : SplitI l t 0 b s a) : SplitE l t b s a :=
  ⟨h.all, fun x hx => by have := h.lo x hx; rwa [qt_zero, qt_zero] at this, fun x hx => by have := h.eq x hx; rwa [qt_zero, qt_zero] at this, fun x hx => by have := h.hi x hx; rwa [qt_zero, qt_zero] at this⟩
end Go.Proofs.Ytdieoecpacplmaa.WheelP
