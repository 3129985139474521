/-
  QueueOrder: what a round does.
-/
import Derived.Test.YtimpngmmmoaejaaQueueI
import Derived.Test.YtimpngmmmoaejaaOff
import Derived.Deep.Cut
import Derived.Deep.CutRange
import Derived.Deep.CutBlock
import Derived.Deep.RegionWith
import Derived.OpenShut
import Derived.IntWalk
namespace Go.Proofs.Ytimpngmmmoaejaa.ChanP
open Go.RowKit Go.Sort Go.Conc Go.Proofs.Ytimpngmmmoaejaa.SliceP Go.Proofs.Ytimpngmmmoaejaa.BoxP Go.Proofs.Ytimpngmmmoaejaa.StrP
set_option linter.unusedVariables false
set_option maxRecDepth 100000

theorem mod8_bd (n m : Int) (h0 : 0 < m) (h1 : m ≤ 1000) : 0 ≤ (n.tmod m + m).tmod m ∧ (n.tmod m + m).tmod m < m ∧ -m < n.tmod m ∧ n.tmod m < m := by
  have h2 : -m < n.tmod m ∧ n.tmod m < m := by
    have := Int.natAbs_tmod n m
    have h3 : (n.tmod m).natAbs < m.natAbs := by rw [this]; exact Nat.mod_lt _ (by omega)
    omega
  rw [Int.tmod_eq_emod_of_nonneg (a := n.tmod m + m) (by omega)]
  exact ⟨Int.emod_nonneg _ (by omega), Int.emod_lt_of_pos _ h0, h2.1, h2.2⟩
theorem modw_bd (n m : Int) (h0 : 0 < m) (h1 : m ≤ 1000) : 0 ≤ (wrap64 (n.tmod m + m)).tmod m ∧ (wrap64 (n.tmod m + m)).tmod m < m := by
  obtain ⟨h2, h3, h4, h5⟩ := mod8_bd n m h0 h1
  rw [IntWalk.wrap64_in _ (by omega)]
  exact ⟨h2, h3⟩
theorem str_two (w : World) (m n : Int) : (convert 44 9 (.slice (some ⟨w.heap.size, 0, none⟩) 2 2)).run Try.prog (w.alloc (.cells #[.int .u8 m, .int .u8 n] 5)) = .ok (.string (strOfNums [m, n])) (w.alloc (.cells #[.int .u8 m, .int .u8 n] 5)) :=
  run_convert_bytes_arg _ 44 5 Try.underlying44 Try.underlying5 w.heap.size 0 2 2 [m, n] rfl (by
    intro i hi
    match i, hi with
    | 0, _ => go_simp
    | 1, _ => go_simp) 9 Try.underlying9
theorem two_size (m n : Int) : (strOfNums [m, n]).size = 2 := strOfNums_size _
/-- What waits, and how many are lost, behind k rounds. -/
structure OrdL (n : Int) (k : Nat) (has : List ByteArray) (lost : Nat) : Prop where
  len : (has.length : Int) ≤ n
  two : ∀ x ∈ has, x.size = 2
  lost : lost ≤ 8 * k
section
variable {n : Int} {k : Nat} {has r : List ByteArray} {lost : Nat} {x s : ByteArray}
theorem OrdL.right (h : OrdL n k has lost) (h1 : 1 ≤ n) (h8 : n ≤ 8) (hk : k ≤ 150) : rightQ n has lost = true := by
  have := h.lost
  have hl := h.len
  have hr : rowB has = true := by
    unfold rowB
    rw [List.all_eq_true]
    intro y hy
    rw [h.two y hy]; decide
  unfold rightQ
  rw [hr]
  simp only [Bool.true_and, Bool.and_eq_true, decide_eq_true_eq]
  omega
theorem OrdL.next (h : OrdL n k has lost) : OrdL n (k + 1) has lost := ⟨h.len, h.two, by have := h.lost; omega⟩
theorem OrdL.clear (h : OrdL n k has lost) (h8 : n ≤ 8) (h1 : 1 ≤ n) : OrdL n (k + 1) [] (lost + has.length) := ⟨by simp; omega, fun x h => (by simp at h), by have := h.lost; have := h.len; omega⟩
theorem OrdL.pop (h : OrdL n k has lost) (e : has = x :: r) : OrdL n (k + 1) r lost := by
  subst e
  exact ⟨by have := h.len; simp at this; omega, fun y hy => h.two y (List.mem_cons_of_mem _ hy), by have := h.lost; omega⟩
theorem OrdL.full (h : OrdL n k has lost) : OrdL n (k + 1) has (lost + 1) := ⟨h.len, h.two, by have := h.lost; omega⟩
theorem OrdL.room (h : OrdL n k has lost) (hlt : ¬ n ≤ (has.length : Int)) (hs : s.size = 2) : OrdL n (k + 1) (has ++ [s]) lost := ⟨by simp; omega, fun y hy => by
  rcases List.mem_append.1 hy with h' | h'
  · exact h.two y h'
  · simp at h'; subst h'; exact hs, by have := h.lost; omega⟩
theorem OrdL.small (h : OrdL n k has lost) (h8 : n ≤ 8) : has.length ≤ 8 ∧ ∀ y ∈ has, y.size ≤ 1000000 := ⟨by have := h.len; omega, fun y hy => by have := h.two y hy; omega⟩
end
section
variable {w : World} {A : Option Addr} {m c k : Nat} {n : Int} {has r : List ByteArray} {lost : Nat} {x s : ByteArray}
theorem ord_clear (h : OrdL n k has lost) (h1 : 1 ≤ n) (h8 : n ≤ 8) (hk : k ≤ 150) (hT : RowS w A m c has) : Calls Try.prog 9 #[qv n (.slice A m c) lost] w fun e w' => e = .returned (.tuple #[qv n (.slice none 0 0) ((lost : Int) + has.length), .int .i64 has.length, .int .i64 0]) ∧ Below w.heap.size w w' := by
  have := q_clear n lost hT (by have := (h.small h8).1; omega) (h.small h8).2 (h.right h1 h8 hk)
  rwa [show min ((lost : Int) + has.length) 1000000 = (lost : Int) + has.length by have := h.lost; have := (h.small h8).1; omega] at this
theorem ord_pop_none (h : OrdL n k [] lost) (h1 : 1 ≤ n) (h8 : n ≤ 8) (hk : k ≤ 150) (hT : RowS w A m c []) : Calls Try.prog 8 #[qv n (.slice A m c) lost] w fun e w' => e = .returned (.tuple #[nilQ, .string emptyS, .int .i64 4]) ∧ Below w.heap.size w w' :=
  q_pop_none n lost hT (h.right h1 h8 hk)
theorem ord_pop (h : OrdL n k has lost) (e : has = x :: r) (h1 : 1 ≤ n) (h8 : n ≤ 8) (hk : k ≤ 150) (hT : RowS w A m c has) : Calls Try.prog 8 #[qv n (.slice A m c) lost] w fun e w' => ∃ A' c', e = .returned (.tuple #[qv n (.slice A' r.length c') lost, .string x, .int .i64 0]) ∧ OwnS w' w.heap.size (.slice A' r.length c') r ∧ Below w.heap.size w w' := by
  subst e
  exact q_pop n lost hT (by have := (h.small h8).1; omega) (h.small h8).2 (h.right h1 h8 hk)
theorem ord_full (h : OrdL n k has lost) (h1 : 1 ≤ n) (h8 : n ≤ 8) (hk : k ≤ 150) (hT : RowS w A m c has) (hs : s.size = 2) (hf : n ≤ (has.length : Int)) : Calls Try.prog 7 #[qv n (.slice A m c) lost, .string s] w fun e w' => ∃ A' c', e = .returned (.tuple #[qv n (.slice A' has.length c') ((lost : Int) + 1), .bool false, .int .i64 0]) ∧ OwnS w' w.heap.size (.slice A' has.length c') has ∧ Below w.heap.size w w' := by
  have := q_push_full n lost s hT (by have := (h.small h8).1; omega) (h.small h8).2 (by omega) (h.right h1 h8 hk) (by have := h.len; simp; omega)
  rwa [show min ((lost : Int) + 1) 1000000 = (lost : Int) + 1 by have := h.lost; omega] at this
theorem ord_room {h2 : List ByteArray} (h : OrdL n k has lost) (e : has ++ [s] = h2) (h1 : 1 ≤ n) (h8 : n ≤ 8) (hk : k ≤ 150) (hT : RowS w A m c has) (hs : s.size = 2) (hf : ¬ n ≤ (has.length : Int)) : Calls Try.prog 7 #[qv n (.slice A m c) lost, .string s] w fun e w' => ∃ A' c', e = .returned (.tuple #[qv n (.slice A' h2.length c') lost, .bool true, .int .i64 0]) ∧ OwnS w' w.heap.size (.slice A' h2.length c') h2 ∧ Below w.heap.size w w' := by
  subst e
  exact q_push_room n lost s hT (by have := (h.small h8).1; omega) (h.small h8).2 (by omega) (h.right h1 h8 hk) (by simp; omega)
theorem ord_right (h : OrdL n k has lost) (h1 : 1 ≤ n) (h8 : n ≤ 8) (hk : k ≤ 150) (hT : RowS w A m c has) : Calls Try.prog 10 #[qv n (.slice A m c) lost] w fun e w' => e = .returned (.bool true) ∧ Below w.heap.size w w' := by
  have := q_right n lost hT (by have := (h.small h8).1; omega) (h.small h8).2
  rwa [h.right h1 h8 hk] at this
end
theorem offRow {w : World} {B N : Nat} {A : Option Addr} {m c : Nat} {l : List ByteArray} (h : OwnF w B N 9 1 (.slice A m c) (cS l)) : RowS w A m c l := by
  obtain ⟨A', c', hv, h1, _, h2⟩ := h.form
  injection hv with e1 e2 e3
  subst e1; subst e3
  rw [cS_length] at e2 h1
  exact ⟨e2, h.sl (by decide), by omega, h2⟩
abbrev OffS (w : World) (B N : Nat) (v : Value) (l : List ByteArray) : Prop := OwnF w B N 9 1 v (cS l)
theorem OffS.form' {w : World} {B N : Nat} {v : Value} {l : List ByteArray} (h : OffS w B N v l) : ∃ A c, v = .slice A l.length c := by
  obtain ⟨A, c, hv, _⟩ := OwnF.form h
  exact ⟨A, c, by rw [hv, cS_length]⟩
theorem OffS.rest' {w : World} {B N : Nat} {A : Option Addr} {m c : Nat} {x : ByteArray} {l : List ByteArray} (h : OffS w B N (.slice A m c) (x :: l)) : ∃ g o, A = some ⟨g, o, none⟩ ∧ OffS w B N (.slice (if c = 1 then some ⟨g, o, none⟩ else some ⟨g, o + 1, none⟩) (m - 1) (c - 1)) l := by
  have hr := offRow h
  obtain ⟨b, o, e, _⟩ := SlS.at_ hr.sl (k := 0) rfl
  subst e
  refine ⟨b, o, rfl, ?_⟩
  have hl := hr.len
  simp only [List.length_cons] at hl
  rcases OwnF.rest h with ⟨rfl, h2⟩ | ⟨g, o', e, h2⟩
  · have : l = [] := by simpa using h2
    subst this
    rw [if_pos rfl]
    simp only [List.length_nil, Nat.zero_add] at hl
    subst hl
    exact .inl ⟨_, rfl, rfl⟩
  · injection e with e
    injection e with e1 e2
    subst e1; subst e2
    by_cases hc : c = 1
    · subst hc
      have : l = [] := List.length_eq_zero_iff.1 (by have := hr.cap; omega)
      subst this
      rw [if_pos rfl]
      simp only [List.length_nil, Nat.zero_add] at hl
      subst hl
      exact .inl ⟨_, rfl, rfl⟩
    · rw [if_neg hc]; exact h2
theorem off3 {w : World} {p N : Nat} {v : Value} {l : List ByteArray} (h : OffS w (p + 1) N v l) (v0 v1 v2 : Value) : OffS (((w.setCell ⟨p, 0, none⟩ v0).setCell ⟨p, 1, none⟩ v1).setCell ⟨p, 2, none⟩ v2) (p + 1) N v l :=
  OwnF.kept (OwnF.kept (OwnF.kept h (setCell_grown' w p 0 v0) (fun k e => by injection e with e; omega)) (setCell_grown' _ p 1 v1) (fun k e => by injection e with e; omega)) (setCell_grown' _ p 2 v2) (fun k e => by injection e with e; omega)
/-- The queue's box, and what it holds. -/
def Ord (n : Int) (w : World) (p : Nat) (k : Nat) (v7 v8 : Value) (wr : World) : Prop := ∃ (has : List ByteArray) (lost : Nat) (A : Option Addr) (c : Nat), v8 = .int .i64 lost ∧ OrdL n k has lost ∧ Bx wr p QT #[.int .i64 n, .slice A has.length c, .int .i64 lost] ∧ RowS wr A has.length c has ∧ OffS wr (p + 1) wr.heap.size v7 has ∧ Below w.heap.size w wr
end Go.Proofs.Ytimpngmmmoaejaa.ChanP
