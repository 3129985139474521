/-
  What the calls on a queue answer, as they are asked.
-/
import Derived.Test.YtimpngmmmoaejaaQueueH
import Derived.Test.YtimpngmmmoaejaaQueueO
namespace Go.Proofs.Ytimpngmmmoaejaa.ChanP
open Go.RowKit Go.Sort Go.Conc Go.Proofs.Ytimpngmmmoaejaa.SliceP Go.Proofs.Ytimpngmmmoaejaa.BoxP Go.Proofs.Ytimpngmmmoaejaa.StrP
set_option linter.unusedVariables false
set_option maxRecDepth 100000

def RetPush (w : World) (cx : Int) (lx : List ByteArray) (ox : Int) (isx : Bool) (ex : Int) (e : Ending) (w' : World) : Prop :=
  ∃ A c, e = .returned (.tuple #[qv cx (.slice A lx.length c) ox, .bool isx, .int .i64 ex]) ∧ OwnS w' w.heap.size (.slice A lx.length c) lx ∧ Below w.heap.size w w'
def RetPop (w : World) (cx : Int) (lx : List ByteArray) (ox : Int) (x : ByteArray) (ex : Int) (e : Ending) (w' : World) : Prop :=
  ∃ A c, e = .returned (.tuple #[qv cx (.slice A lx.length c) ox, .string x, .int .i64 ex]) ∧ OwnS w' w.heap.size (.slice A lx.length c) lx ∧ Below w.heap.size w w'
def SaysPush (cap : Int) (l : List ByteArray) (lost : Int) (s : ByteArray) (cx : Int) (lx : List ByteArray) (ox : Int) (isx : Bool) (ex : Int) : Prop :=
  (decide (114 < (s.size : Int)) = true ∧ 0 = cx ∧ [] = lx ∧ 0 = ox ∧ false = isx ∧ 1 = ex) ∨ (decide (114 < (s.size : Int)) = false ∧ ((l.length : Int) == cap) = true ∧ cap = cx ∧ l = lx ∧ min (lost + 1) 1000000 = ox ∧ false = isx ∧ 0 = ex) ∨
    (decide (114 < (s.size : Int)) = false ∧ ((l.length : Int) == cap) = false ∧ cap = cx ∧ l ++ [s] = lx ∧ lost = ox ∧ true = isx ∧ 0 = ex)
def SaysPop (cap : Int) (l : List ByteArray) (lost : Int) (cx : Int) (lx : List ByteArray) (ox : Int) (x : ByteArray) (ex : Int) : Prop :=
  (l = [] ∧ 0 = cx ∧ [] = lx ∧ 0 = ox ∧ emptyS = x ∧ 4 = ex) ∨ (l = x :: lx ∧ cap = cx ∧ lost = ox ∧ 0 = ex)
section
variable {cap lost : Int} {l : List ByteArray}
theorem push_bad {A : Option Addr} {n c : Nat} {w : World} (s : ByteArray) (ht : RowS w A n c l) (hs : l.length ≤ 40 ∧ ∀ x ∈ l, x.size ≤ 130) (hz : s.size ≤ 130) (hr : rightQ cap l lost = false) : Calls Try.prog 7 #[qv cap (.slice A n c) lost, .string s] w fun e w' => e = .returned (.tuple #[nilQ, .bool false, .int .i64 1]) ∧ Below w.heap.size w w' :=
  q_push_bad cap lost s ht (by omega) (fun x hx => by have := hs.2 x hx; omega) (by omega) (by rw [hr]; rfl)
theorem pop_bad {A : Option Addr} {n c : Nat} {w : World} (ht : RowS w A n c l) (hs : l.length ≤ 40 ∧ ∀ x ∈ l, x.size ≤ 130) (hr : rightQ cap l lost = false) : Calls Try.prog 8 #[qv cap (.slice A n c) lost] w fun e w' => e = .returned (.tuple #[nilQ, .string emptyS, .int .i64 1]) ∧ Below w.heap.size w w' :=
  q_pop_bad cap lost ht (by omega) (fun x hx => by have := hs.2 x hx; omega) hr
theorem clear_bad {A : Option Addr} {n c : Nat} {w : World} (ht : RowS w A n c l) (hs : l.length ≤ 40 ∧ ∀ x ∈ l, x.size ≤ 130) (hr : rightQ cap l lost = false) : Calls Try.prog 9 #[qv cap (.slice A n c) lost] w fun e w' => e = .returned (.tuple #[nilQ, .int .i64 0, .int .i64 1]) ∧ Below w.heap.size w w' :=
  q_clear_bad cap lost ht (by omega) (fun x hx => by have := hs.2 x hx; omega) hr
theorem clear_ok {A : Option Addr} {n c : Nat} {w : World} (ht : RowS w A n c l) (hs : l.length ≤ 40 ∧ ∀ x ∈ l, x.size ≤ 130) (hr : rightQ cap l lost = true) : Calls Try.prog 9 #[qv cap (.slice A n c) lost] w fun e w' => e = .returned (.tuple #[qv cap (.slice none 0 0) (min (lost + l.length) 1000000), .int .i64 l.length, .int .i64 0]) ∧ Below w.heap.size w w' :=
  q_clear cap lost ht (by omega) (fun x hx => by have := hs.2 x hx; omega) hr
theorem right_b {A : Option Addr} {n c : Nat} {w : World} (ht : RowS w A n c l) (hs : l.length ≤ 40 ∧ ∀ x ∈ l, x.size ≤ 130) {b : Bool} (hr : rightQ cap l lost = b) : Calls Try.prog 10 #[qv cap (.slice A n c) lost] w fun e w' => e = .returned (.bool b) ∧ Below w.heap.size w w' := by
  have := q_right cap lost ht (by omega) (fun x hx => by have := hs.2 x hx; omega)
  rwa [hr] at this
theorem r_right_b {A : Option Addr} {n c : Nat} {w : World} (ht : RowS w A n c l) (hs : l.length ≤ 40 ∧ ∀ x ∈ l, x.size ≤ 130) {b : Bool} (hr : rightQ cap l lost = b) : Calls Try.prog 11 #[qv cap (.slice A n c) lost] w fun e w' => e = .returned (.bool b) ∧ Below w.heap.size w w' := by
  have := r_right cap lost ht (by omega) (fun x hx => by have := hs.2 x hx; omega)
  rwa [hr] at this
theorem lost_in (hr : rightQ cap l lost = true) : 0 ≤ lost ∧ lost ≤ 1000000 := by
  unfold rightQ at hr
  simp only [Bool.and_eq_true, decide_eq_true_eq] at hr
  exact ⟨hr.2.2.2.2.1, hr.2.2.2.2.2⟩
theorem says_push (s : ByteArray) (hs : l.length ≤ 40 ∧ ∀ x ∈ l, x.size ≤ 130) (hz : s.size ≤ 130) (hr : rightQ cap l lost = true) :
    ∃ (cx : Int) (lx : List ByteArray) (ox : Int) (isx : Bool) (ex : Int), (∀ (A : Option Addr) (n c : Nat) (w : World), RowS w A n c l → Calls Try.prog 7 #[qv cap (.slice A n c) lost, .string s] w (RetPush w cx lx ox isx ex)) ∧ lx.length ≤ 100 ∧ SaysPush cap l lost s cx lx ox isx ex := by
  have hl : l.length ≤ 100000 := by omega
  have hz2 : ∀ x ∈ l, x.size ≤ 1000000 := fun x hx => by have := hs.2 x hx; omega
  cases hd : decide (114 < (s.size : Int)) with
  | true => exact ⟨0, [], 0, false, 1, fun A n c w ht => (q_push_bad cap lost s ht hl hz2 (by omega) (by rw [hr, hd]; rfl)).mono fun e w' h => ⟨none, 0, h.1, Own.nil _ _ _ _, h.2⟩, by simp, .inl ⟨hd, rfl, rfl, rfl, rfl, rfl⟩⟩
  | false =>
    have h114 : s.size ≤ 114 := by have : ¬ (114 : Int) < s.size := by simpa using hd
                                   omega
    cases hf : ((l.length : Int) == cap) with
    | true => exact ⟨cap, l, _, false, 0, fun A n c w ht => q_push_full cap lost s ht hl hz2 h114 hr hf, by omega, .inr (.inl ⟨hd, hf, rfl, rfl, rfl, rfl, rfl⟩)⟩
    | false => exact ⟨cap, l ++ [s], lost, true, 0, fun A n c w ht => q_push_room cap lost s ht hl hz2 h114 hr hf, by simp; omega, .inr (.inr ⟨hd, hf, rfl, rfl, rfl, rfl, rfl⟩)⟩
theorem says_pop (hs : l.length ≤ 40 ∧ ∀ x ∈ l, x.size ≤ 130) (hr : rightQ cap l lost = true) :
    ∃ (cx : Int) (lx : List ByteArray) (ox : Int) (x : ByteArray) (ex : Int), (∀ (A : Option Addr) (n c : Nat) (w : World), RowS w A n c l → Calls Try.prog 8 #[qv cap (.slice A n c) lost] w (RetPop w cx lx ox x ex)) ∧ lx.length ≤ 100 ∧ SaysPop cap l lost cx lx ox x ex := by
  have hz2 : ∀ x ∈ l, x.size ≤ 1000000 := fun x hx => by have := hs.2 x hx; omega
  have hl : l.length ≤ 100000 := by omega
  match l, hs, hz2, hr, hl with
  | [], hs, hz2, hr, _ => exact ⟨0, [], 0, emptyS, 4, fun A n c w ht => (q_pop_none cap lost ht hr).mono fun e w' h => ⟨none, 0, h.1, Own.nil _ _ _ _, h.2⟩, by simp, .inl ⟨rfl, rfl, rfl, rfl, rfl, rfl⟩⟩
  | x :: r, hs, hz2, hr, hl => exact ⟨cap, r, lost, x, 0, fun A n c w ht => q_pop cap lost ht hl hz2 hr, by have := hs.1; simp at this; omega, .inr ⟨rfl, rfl, rfl, rfl⟩⟩
end
/-- The law's first statement is done: the queue's box holds few of it. -/
def QB (w : World) (cap lost : Int) (l : List ByteArray) (W : World) : Prop := ∃ A c, Bx W w.heap.size QT #[.int .i64 cap, .slice A l.length c, .int .i64 lost] ∧ RowS W A l.length c l ∧ Below w.heap.size w W
end Go.Proofs.Ytimpngmmmoaejaa.ChanP
