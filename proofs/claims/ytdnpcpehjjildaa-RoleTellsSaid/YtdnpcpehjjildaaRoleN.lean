/-
  What is told, plainly; vec's own functions over the program's bridges.
-/
import Derived.Test.YtdnpcpehjjildaaRoleS
import Derived.IntWalk
namespace Go.Proofs.Ytdnpcpehjjildaa.RoleP
open Go.RowKit Go.Sort Go.Proofs.Ytdnpcpehjjildaa.SliceP Go.Proofs.Ytdnpcpehjjildaa.BoxP Go.Proofs.Ytdnpcpehjjildaa.VecP
open Go.Proofs.Ytdnpcpehjjildaa.IntP (RowI SlI OwnI)
open Go.Proofs.Ytdnpcpehjjildaa.BoolP (RowB SlB)
set_option linter.unusedVariables false
set_option maxRecDepth 100000
theorem mod_bd (n m : Int) (h0 : 0 < m) (h1 : m ≤ 1000) : 0 ≤ (wrap64 (n.tmod m + m)).tmod m ∧ (wrap64 (n.tmod m + m)).tmod m < m := by
  have h2 : -m < n.tmod m ∧ n.tmod m < m := by
    have := Int.natAbs_tmod n m
    have h3 : (n.tmod m).natAbs < m.natAbs := by rw [this]; exact Nat.mod_lt _ (by omega)
    omega
  rw [IntWalk.wrap64_in _ (by omega), Int.tmod_eq_emod_of_nonneg (a := n.tmod m + m) (by omega)]
  exact ⟨Int.emod_nonneg _ (by omega), Int.emod_lt_of_pos _ h0⟩
theorem better_to {x y : V} {b : Bool} (hx : x.ok = true) (hy : y.ok = true) (h : x.bet y = b) (w : World) : Calls Try.prog 20 #[vg x, vg y] w fun e w' => e = .returned (.tuple #[.bool b, .int .i64 0]) ∧ Below w.heap.size w w' := by
  have := better_good x.r x.c x.b x.p y.r y.c y.b y.p w hx hy
  unfold V.bet at h
  rwa [h] at this
theorem far_to {x : V} {n : Int} (hx : x.ok = true) (h0 : 1 ≤ n) (h1 : n ≤ 1000) {y : V} (h : farV x n = y) (w : World) : Calls Try.prog 19 #[vg x, .int .i64 n] w fun e w' => e = .returned (.tuple #[vg y, .int .i64 0]) ∧ Below w.heap.size w w' := by
  have := far_good x.r x.c x.b x.p n w hx (by unfold inB; simp; omega)
  rw [← h]
  exact this
section
variable {s : S}
theorem tells_form (p : Int) : s.tells p = ⟨(s.tells 0).r, (s.tells 0).c, s.id, p⟩ := by unfold S.tells; cases s.root <;> rfl
theorem ok_nums {x : V} : x.ok = true ↔ (0 ≤ x.r ∧ x.r < 65536 ∧ 0 ≤ x.b ∧ x.b < 65536 ∧ 0 ≤ x.c ∧ x.c < 2147483648 ∧ 0 ≤ x.p ∧ x.p < 8) := okV_iff _ _ _ _
theorem way_ok (hok : s.ok = true) {p : Nat} (hp : p < s.costs.length) (h : (s.info p).has = true) : (s.way p).ok = true := by
  have h1 := ok_nums.1 ((ok_info hok hp).2.1 h).2
  obtain ⟨h2, h3, _⟩ := ok_port hok hp
  refine ok_nums.2 ?_
  unfold S.way farV
  simp only
  omega
theorem ok_lens (hok : s.ok = true) : (0 ≤ s.id ∧ s.id ≤ 65535) ∧ (1 ≤ s.costs.length ∧ s.costs.length ≤ 8) ∧ s.ups.length = s.costs.length ∧ s.infos.length = s.costs.length := head_iff.1 (ok_head hok)
theorem tells_ok (hok : s.ok = true) {p : Nat} (hp : p < s.costs.length) : (s.tells p).ok = true := by
  obtain ⟨h1, h2, h3, h4⟩ := ok_lens hok
  unfold S.tells
  cases hr : s.root with
  | none => exact ok_nums.2 (by simp only; omega)
  | some b =>
    obtain ⟨h5, h6⟩ := root_lt hr
    have := ok_nums.1 (way_ok hok (p := b) (by omega) h6)
    exact ok_nums.2 (by simp only; omega)
theorem root_ways : s.root = none ∧ s.rootI = -1 ∧ s.age = 0 ∨ ∃ b, s.root = some b ∧ s.rootI = (b : Int) ∧ b < s.infos.length ∧ s.age = (s.info b).age + 1 := by
  cases h : s.root with
  | none => exact .inl ⟨rfl, by unfold S.rootI; rw [h]; rfl, by unfold S.age; rw [h]⟩
  | some b => exact .inr ⟨b, rfl, by unfold S.rootI; rw [h]; rfl, (root_lt h).1, by unfold S.age; rw [h]⟩
theorem told_no {p : Nat} {d : Int} (h : s.tell p d = false) : s.told p d = V0 ∧ s.toldAge p d = 0 := by unfold S.told S.toldAge; rw [h]; exact ⟨rfl, rfl⟩
theorem told_yes {p : Nat} {d : Int} (h : s.tell p d = true) : s.told p d = ⟨(s.tells 0).r, (s.tells 0).c, s.id, p⟩ ∧ s.toldAge p d = s.age ∧ s.role p = 1 ∧ s.age < d := by
  unfold S.told S.toldAge
  rw [h]
  unfold S.tell at h
  simp only [Bool.and_eq_true, decide_eq_true_eq] at h
  exact ⟨tells_form _, rfl, h.1, h.2⟩
end
/-- A cell that is known. -/
structure Cel (w : World) (b o : Nat) (v : Value) : Prop where
  lt : b < w.heap.size
  c : w.cell? ⟨b, o, none⟩ = some v
theorem Cel.below {w w' : World} {b o : Nat} {v : Value} (h : Cel w b o v) (hb : Below w.heap.size w w') : Cel w' b o v := ⟨Nat.lt_of_lt_of_le h.lt hb.size, (hb.cell (p := ⟨b, o, none⟩) h.lt).trans h.c⟩
structure Bw (W0 w : World) : Prop where
  b : Below W0.heap.size W0 w
theorem Bw.below {W0 w w' : World} (h : Bw W0 w) (hb : Below w.heap.size w w') : Bw W0 w' := ⟨bt h.b hb⟩
theorem ptell_to (C : RoleC) {s : S} {AC : Option Addr} {cC : Nat} {AU : Option Addr} {cU : Nat} {AI : Option Addr} {cI : Nat} {w : World} {p : Nat} {most : Int} {v : V} {n : Int} {b : Bool} (h : s.ok = true) (hp : p < s.costs.length) (h1 : 1 ≤ most) (h2 : most ≤ 255) (hv : s.told p most = v) (hn : s.toldAge p most = n) (hb : s.tell p most = b) (a : Arg w s AC cC AU cU AI cI) : Calls Try.prog 10 #[selfV s.id (.slice AC s.costs.length cC) (.slice AU s.ups.length cU) (.slice AI s.infos.length cI), .int .i64 p, .int .i64 most] w fun e w' => e = .returned (.tuple #[cg v n, .bool b, .int .i64 0]) ∧ Below w.heap.size w w' := by
  have := C.tell_ok h a hp h1 h2
  rwa [hv, hn, hb] at this
end Go.Proofs.Ytdnpcpehjjildaa.RoleP
