/-
  Contracts of footwayref09: Clear, Push.
-/
import Derived.Test.YtimpngmmmoaejaaQueueR
import Derived.Test.YtimpngmmmoaejaaBx
namespace Go.Proofs.Ytimpngmmmoaejaa.StrP
open Go.RowKit Go.Sort Go.Proofs.Ytimpngmmmoaejaa.SliceP Go.Proofs.Ytimpngmmmoaejaa.BoxP
set_option linter.unusedVariables false
set_option maxRecDepth 100000

abbrev QT : TypeId := 24
abbrev qo (cap : Int) (v : Value) (lost : Int) : Obj := .cells #[.int .i64 cap, v, .int .i64 lost] 24
set_option maxHeartbeats 8000000 in
theorem r_clear {A : Option Addr} {n c : Nat} {l : List ByteArray} (cap lost : Int) {w : World} (ht : RowS w A n c l) (hs : l.length ≤ 1000000) (h0 : 0 ≤ lost) (h1 : lost ≤ 1000000) :
    Calls Try.prog 14 #[qv cap (.slice A n c) lost] w fun e w' => e = .returned (.tuple #[qv cap (.slice none 0 0) (min (lost + l.length) 1000000), .int .i64 l.length]) ∧ Below w.heap.size w w' := by
  obtain rfl := ht.len
  obtain ⟨m, hm⟩ : ∃ m, min (lost + l.length) 1000000 = m := ⟨_, rfl⟩
  rw [hm]
  clear ht
  go_enter Try.func14, Try.ntmps14
  by_cases hc : lost + l.length ≤ 1000000
  · have hc2 : ¬ 1000000 < lost + (l.length : Int) := by omega
    obtain rfl : lost + (l.length : Int) = m := by rw [← hm]; omega
    replace hm := Lib.hid hm
    go_wp2_with fail
    refine bodyPost_ret (v := .tuple #[qv cap (.slice none 0 0) (lost + l.length), .int .i64 l.length]) (by simp [results, Try.results14, go_sem]) rfl ⟨rfl, ((Below.refl _ _).alloc (Nat.le_refl _) _).alloc (by simp) _⟩
  · have hc2 : 1000000 < lost + (l.length : Int) := by omega
    obtain rfl : 1000000 = m := by rw [← hm]; omega
    replace hm := Lib.hid hm
    go_wp2_with fail
    refine bodyPost_ret (v := .tuple #[qv cap (.slice none 0 0) 1000000, .int .i64 l.length]) (by simp [results, Try.results14, go_sem]) rfl ⟨rfl, ((Below.refl _ _).alloc (Nat.le_refl _) _).alloc (by simp) _⟩
set_option maxHeartbeats 8000000 in
theorem r_push_no {A : Option Addr} {n c : Nat} {l : List ByteArray} (cap lost : Int) (s : ByteArray) {w : World} (ht : RowS w A n c l) (hs : l.length ≤ 1000000) (h0 : 0 ≤ lost) (h1 : lost ≤ 1000000) (hf : ((l.length : Int) == cap) = true) :
    Calls Try.prog 15 #[qv cap (.slice A n c) lost, .string s] w fun e w' => e = .returned (.tuple #[qv cap (.slice A n c) (min (lost + 1) 1000000), .bool false]) ∧ Below w.heap.size w w' := by
  obtain rfl := ht.len
  obtain ⟨m, hm⟩ : ∃ m, min (lost + 1) 1000000 = m := ⟨_, rfl⟩
  rw [hm]
  clear ht
  go_enter Try.func15, Try.ntmps15
  by_cases hc : lost + 1 ≤ 1000000
  · have hc2 : ¬ 1000000 < lost + 1 := by omega
    obtain rfl : lost + 1 = m := by rw [← hm]; omega
    replace hm := Lib.hid hm
    go_wp2_with fail
    refine bodyPost_ret (v := .tuple #[qv cap (.slice A l.length c) (lost + 1), .bool false]) (by simp [results, Try.results15, go_sem]) rfl ⟨rfl, ((Below.refl _ _).alloc (Nat.le_refl _) _).alloc (by simp) _⟩
  · have hc2 : 1000000 < lost + 1 := by omega
    obtain rfl : 1000000 = m := by rw [← hm]; omega
    replace hm := Lib.hid hm
    go_wp2_with fail
    refine bodyPost_ret (v := .tuple #[qv cap (.slice A l.length c) 1000000, .bool false]) (by simp [results, Try.results15, go_sem]) rfl ⟨rfl, ((Below.refl _ _).alloc (Nat.le_refl _) _).alloc (by simp) _⟩
end Go.Proofs.Ytimpngmmmoaejaa.StrP
