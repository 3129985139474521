/-
  FdbKeeps: what its four calls answer.
-/
import Derived.Test.YtnghilcjecjljaaFdbRL
import Derived.Test.YtnghilcjecjljaaFdbU
import Derived.OpenShut
namespace Go.Proofs.Ytnghilcjecjljaa.FdbP
open Go.RowKit Go.Sort Go.Proofs.Ytnghilcjecjljaa.SliceP Go.Proofs.Ytnghilcjecjljaa.MacP
set_option linter.unusedVariables false
set_option maxRecDepth 100000

theorem small_nil' : Small [] := ⟨by simp, fun _ h => by cases h⟩
section
variable {A : Option Addr} {n c : Nat} {bs : List (List E)} {s ag a port now : Int} {w : World}
theorem pin_bad (ht : TabS w A n c bs) (hs : Small bs) (h : rightT bs s ag = false) : Calls Try.prog 23 #[tbv (.slice A n c) s ag, .int .i64 a, .int .i64 port] w (RetTab w [] 0 0 1) := fdPin s ag a port ht hs false (by unfold pinOk; rw [h]; rfl)
theorem unpin_bad (ht : TabS w A n c bs) (hs : Small bs) (h : rightT bs s ag = false) : Calls Try.prog 24 #[tbv (.slice A n c) s ag, .int .i64 a] w (RetTab w [] 0 0 1) := fdUnpin s ag a ht hs false (by unfold unpinOk; rw [h]; rfl)
theorem sweep_bad (ht : TabS w A n c bs) (hs : Small bs) (h : rightT bs s ag = false) : Calls Try.prog 25 #[tbv (.slice A n c) s ag, .int .i64 now] w (RetTab w [] 0 0 1) := fdSweep s ag now ht hs false (by rw [h]; rfl)
theorem flush_bad (ht : TabS w A n c bs) (hs : Small bs) (h : rightT bs s ag = false) : Calls Try.prog 26 #[tbv (.slice A n c) s ag, .int .i64 port] w (RetTab w [] 0 0 1) := fdFlush s ag port ht hs false (by rw [h]; rfl)
end
def KeepPin (bs : List (List E)) (s ag a port : Int) (bx : List (List E)) (sx gx ex : Int) : Prop :=
  ((macB a && portB port) = false ∧ [] = bx ∧ 0 = sx ∧ 0 = gx ∧ 1 = ex) ∨ ((macB a && portB port) = true ∧ rPutO bs s ⟨a, port, 0, true⟩ = none ∧ [] = bx ∧ 0 = sx ∧ 0 = gx ∧ 5 = ex) ∨
    ((macB a && portB port) = true ∧ rPutO bs s ⟨a, port, 0, true⟩ = some bx ∧ Small bx ∧ s = sx ∧ ag = gx ∧ 0 = ex)
def KeepUnpin (bs : List (List E)) (s ag a : Int) (bx : List (List E)) (sx gx ex : Int) : Prop :=
  (macB a = false ∧ [] = bx ∧ 0 = sx ∧ 0 = gx ∧ 1 = ex) ∨ (macB a = true ∧ pinW (entO bs a) = false ∧ [] = bx ∧ 0 = sx ∧ 0 = gx ∧ 4 = ex) ∨
    (macB a = true ∧ pinW (entO bs a) = true ∧ rUnpin bs a = bx ∧ Small bx ∧ s = sx ∧ ag = gx ∧ 0 = ex)
def KeepSweep (bs : List (List E)) (s ag now : Int) (bx : List (List E)) (sx gx ex : Int) : Prop :=
  (timeB now = false ∧ [] = bx ∧ 0 = sx ∧ 0 = gx ∧ 1 = ex) ∨ (timeB now = true ∧ bs.map (keepL (oldW ag now)) = bx ∧ Small bx ∧ s = sx ∧ ag = gx ∧ 0 = ex)
def KeepFlush (bs : List (List E)) (s ag port : Int) (bx : List (List E)) (sx gx ex : Int) : Prop :=
  ((portB port || port == -1) = false ∧ [] = bx ∧ 0 = sx ∧ 0 = gx ∧ 1 = ex) ∨ ((portB port || port == -1) = true ∧ bs.map (keepL (flushR port)) = bx ∧ Small bx ∧ s = sx ∧ ag = gx ∧ 0 = ex)
theorem keep_pin {bs : List (List E)} {s ag : Int} (a port : Int) (hr : rightT bs s ag = true) : ∃ (bx : List (List E)) (sx gx ex : Int), (∀ (A : Option Addr) (n c : Nat) (w : World), TabS w A n c bs → Calls Try.prog 23 #[tbv (.slice A n c) s ag, .int .i64 a, .int .i64 port] w (RetTab w bx sx gx ex)) ∧ KeepPin bs s ag a port bx sx gx ex := by
  cases hmp : (macB a && portB port) with
  | false => exact ⟨[], 0, 0, 1, fun A n c w ht => fdPin s ag a port ht (right_small hr) false (by unfold pinOk; rw [hr, hmp]; rfl), .inl ⟨hmp, rfl, rfl, rfl, rfl⟩⟩
  | true =>
    have hmp' : macB a = true ∧ portB port = true := by rwa [Bool.and_eq_true] at hmp
    cases ho : pinO bs s a port with
    | none => exact ⟨[], 0, 0, 5, fun A n c w ht => by have := fdPin s ag a port ht (right_small hr) true (by unfold pinOk; rw [hr, hmp]; rfl); rw [ho] at this; exact this, .inr (.inl ⟨hmp, (rPut_eq hr).trans ho, rfl, rfl, rfl, rfl⟩)⟩
    | some bx => exact ⟨bx, s, ag, 0, fun A n c w ht => by have := fdPin s ag a port ht (right_small hr) true (by unfold pinOk; rw [hr, hmp]; rfl); rw [ho] at this; exact this, .inr (.inr ⟨hmp, (rPut_eq hr).trans ho, right_small (put_right (x := ⟨a, port, 0, true⟩) hr ho (rightE_pin hmp'.1 hmp'.2)), rfl, rfl, rfl⟩)⟩
theorem keep_unpin {bs : List (List E)} {s ag : Int} (a : Int) (hr : rightT bs s ag = true) : ∃ (bx : List (List E)) (sx gx ex : Int), (∀ (A : Option Addr) (n c : Nat) (w : World), TabS w A n c bs → Calls Try.prog 24 #[tbv (.slice A n c) s ag, .int .i64 a] w (RetTab w bx sx gx ex)) ∧ KeepUnpin bs s ag a bx sx gx ex := by
  cases hm : macB a with
  | false => exact ⟨[], 0, 0, 1, fun A n c w ht => fdUnpin s ag a ht (right_small hr) false (by unfold unpinOk; rw [hr, hm]; rfl), .inl ⟨hm, rfl, rfl, rfl, rfl⟩⟩
  | true =>
    cases ho : unpinO bs a with
    | none =>
      have hp : pinW (entO bs a) = false := by
        rw [pinned_eq]
        unfold unpinO at ho
        cases hq : pinnedE bs a with
        | none => rfl
        | some y => rw [hq] at ho; cases ho
      exact ⟨[], 0, 0, 4, fun A n c w ht => by have := fdUnpin s ag a ht (right_small hr) true (by unfold unpinOk; rw [hr, hm]; rfl); rw [ho] at this; exact this, .inr (.inl ⟨hm, hp, rfl, rfl, rfl, rfl⟩)⟩
    | some bx =>
      have hp : pinW (entO bs a) = true ∧ Small bx := by
        rw [pinned_eq]
        unfold unpinO at ho
        cases hq : pinnedE bs a with
        | none => rw [hq] at ho; cases ho
        | some y =>
          rw [hq] at ho
          refine ⟨rfl, ?_⟩
          obtain rfl : bs.map (keepL (isE y)) = bx := Option.some.inj ho
          exact right_small (right_keep _ hr)
      exact ⟨bx, s, ag, 0, fun A n c w ht => by have := fdUnpin s ag a ht (right_small hr) true (by unfold unpinOk; rw [hr, hm]; rfl); rw [ho] at this; exact this, .inr (.inr ⟨hm, hp.1, unpin_eq hr ho, hp.2, rfl, rfl, rfl⟩)⟩
theorem keep_sweep {bs : List (List E)} {s ag : Int} (now : Int) (hr : rightT bs s ag = true) : ∃ (bx : List (List E)) (sx gx ex : Int), (∀ (A : Option Addr) (n c : Nat) (w : World), TabS w A n c bs → Calls Try.prog 25 #[tbv (.slice A n c) s ag, .int .i64 now] w (RetTab w bx sx gx ex)) ∧ KeepSweep bs s ag now bx sx gx ex := by
  cases hm : timeB now with
  | false => exact ⟨[], 0, 0, 1, fun A n c w ht => fdSweep s ag now ht (right_small hr) false (by rw [hr, hm]; rfl), .inl ⟨hm, rfl, rfl, rfl, rfl⟩⟩
  | true => exact ⟨sweepT bs ag now, s, ag, 0, fun A n c w ht => fdSweep s ag now ht (right_small hr) true (by rw [hr, hm]; rfl), .inr ⟨hm, sweepT_eq hr hm, right_small (right_keep _ hr), rfl, rfl, rfl⟩⟩
theorem keep_flush {bs : List (List E)} {s ag : Int} (port : Int) (hr : rightT bs s ag = true) : ∃ (bx : List (List E)) (sx gx ex : Int), (∀ (A : Option Addr) (n c : Nat) (w : World), TabS w A n c bs → Calls Try.prog 26 #[tbv (.slice A n c) s ag, .int .i64 port] w (RetTab w bx sx gx ex)) ∧ KeepFlush bs s ag port bx sx gx ex := by
  cases hm : (portB port || port == -1) with
  | false => exact ⟨[], 0, 0, 1, fun A n c w ht => fdFlush s ag port ht (right_small hr) false (by rw [hr, hm]; rfl), .inl ⟨hm, rfl, rfl, rfl, rfl⟩⟩
  | true => exact ⟨bs.map (keepL (flushP port)), s, ag, 0, fun A n c w ht => fdFlush s ag port ht (right_small hr) true (by rw [hr, hm]; rfl), .inr ⟨hm, flush_eq hr hm, right_small (right_keep _ hr), rfl, rfl, rfl⟩⟩
section
variable {A : Option Addr} {n c : Nat} {bs bx : List (List E)} {w : World}
theorem r_pin_yes (s ag a port : Int) (ht : TabS w A n c bs) (hs : Small bs) (hbl : ∀ l ∈ bs, l.length ≤ 100000) (hn : numB (bs.length : Int) = true) (hm : macB a = true) (ho : rPutO bs s ⟨a, port, 0, true⟩ = some bx) :
    Calls Try.prog 31 #[tbv (.slice A n c) s ag, .int .i64 a, .int .i64 port] w fun e w' => ∃ A n c, e = .returned (.tuple #[tbv (.slice A n c) s ag, .bool true]) ∧ TabS w' A n c bx ∧ Below w.heap.size w w' := r_pin s ag a port ht hs hbl hn hm ho
theorem r_pin_no (s ag a port : Int) (ht : TabS w A n c bs) (hs : Small bs) (hbl : ∀ l ∈ bs, l.length ≤ 100000) (hn : numB (bs.length : Int) = true) (hm : macB a = true) (ho : rPutO bs s ⟨a, port, 0, true⟩ = none) :
    Calls Try.prog 31 #[tbv (.slice A n c) s ag, .int .i64 a, .int .i64 port] w fun e w' => ∃ A n c, e = .returned (.tuple #[tbv (.slice A n c) s ag, .bool false]) ∧ TabS w' A n c bs ∧ Below w.heap.size w w' := r_pin s ag a port ht hs hbl hn hm ho
end
end Go.Proofs.Ytnghilcjecjljaa.FdbP
