/-
  The statements' few, of a bridge.
-/
import Derived.Test.YtdnpcpehjjildaaRoleU
import Derived.BigRegion
namespace Go.Proofs.Ytdnpcpehjjildaa.RoleP
open Go.RowKit Go.Sort Go.Proofs.Ytdnpcpehjjildaa.SliceP Go.Proofs.Ytdnpcpehjjildaa.BoxP Go.Proofs.Ytdnpcpehjjildaa.VecP
open Go.Proofs.Ytdnpcpehjjildaa.IntP (RowI SlI OwnI)
open Go.Proofs.Ytdnpcpehjjildaa.BoolP (RowB SlB)
set_option linter.unusedVariables false
set_option maxRecDepth 100000
set_option maxHeartbeats 16000000 in
theorem few_values {AC AU AI : Option Addr} {nC nU nI cC cU cI : Nat} (id : Int) {w : World} (h1 : nC ≤ cC) (h2 : nU ≤ cU) (h3 : nI ≤ cI) (k1 : cC ≤ 9223372036854775807) (k2 : cU ≤ 9223372036854775807) (k3 : cI ≤ 9223372036854775807) (mC mU mI : Nat) (m1 : mC = min nC 12) (m2 : mU = min nU 12) (m3 : mI = min nI 12) :
    Calls Try.prog 7 #[selfV id (.slice AC nC cC) (.slice AU nU cU) (.slice AI nI cI)] w fun e w' => e = .returned (selfV id (.slice AC mC cC) (.slice AU mU cU) (.slice AI mI cI)) ∧ Below w.heap.size w w' := by
  have q1 : min (nC : Int) 12 = (mC : Int) := by omega
  have q2 : min (nU : Int) 12 = (mU : Int) := by omega
  have q3 : min (nI : Int) 12 = (mI : Int) := by omega
  have p1 : (if (12 : Int) < (nC : Int) then (12 : Int) else (nC : Int)) = (mC : Int) := by split <;> omega
  have p2 : (if (12 : Int) < (nU : Int) then (12 : Int) else (nU : Int)) = (mU : Int) := by split <;> omega
  have p3 : (if (12 : Int) < (nI : Int) then (12 : Int) else (nI : Int)) = (mI : Int) := by split <;> omega
  have r1 : mC ≤ cC := by omega
  have r2 : mU ≤ cU := by omega
  have r3 : mI ≤ cI := by omega
  replace m1 := Lib.hid m1
  replace m2 := Lib.hid m2
  replace m3 := Lib.hid m3
  go_enter Try.func7, Try.ntmps7
  go_wp2_with fail
  go_region
  all_goals
    go_wp2_with fail
    refine bodyPost_ret (v := selfV id (.slice AC mC cC) (.slice AU mU cU) (.slice AI mI cI)) (by simp [results, Try.results7, go_sem]) rfl ⟨rfl, ?_⟩
    exact (((Below.refl _ _).alloc (Nat.le_refl _) _).alloc (by simp) _).drew
def few (s : S) : S := ⟨s.id, s.costs.take 12, s.ups.take 12, s.infos.take 12⟩
theorem RowN.take {w : World} {A : Option Addr} {n c : Nat} {l : List N} (h : RowN w A n c l) (k : Nat) (hk : k ≤ l.length) : RowN w A k c (l.take k) :=
  ⟨by rw [List.length_take]; omega, by have := Sl.take h.sl k; rwa [← List.map_take] at this, by have := h.len; have := h.cap; omega, h.nil⟩
theorem take_min {α : Type} (l : List α) : l.take 12 = l.take (min l.length 12) := by
  by_cases h : l.length ≤ 12
  · rw [Nat.min_eq_left h, List.take_length, List.take_of_length_le h]
  · rw [Nat.min_eq_right (by omega)]
theorem few_len (s : S) : (few s).costs.length ≤ 1000 ∧ (few s).ups.length ≤ 1000 ∧ (few s).infos.length ≤ 1000 := by
  unfold few; simp only [List.length_take]; omega
theorem few_any {s : S} {AC : Option Addr} {cC : Nat} {AU : Option Addr} {cU : Nat} {AI : Option Addr} {cI : Nat} {w : World} (hS : SelfR w s AC cC AU cU AI cI) (k1 : cC ≤ 9223372036854775807) (k2 : cU ≤ 9223372036854775807) (k3 : cI ≤ 9223372036854775807) :
    Calls Try.prog 7 #[selfV s.id (.slice AC s.costs.length cC) (.slice AU s.ups.length cU) (.slice AI s.infos.length cI)] w fun e w' => e = .returned (selfV (few s).id (.slice AC (few s).costs.length cC) (.slice AU (few s).ups.length cU) (.slice AI (few s).infos.length cI)) ∧ Below w.heap.size w w' :=
  few_values s.id hS.costs.cap hS.ups.cap hS.infos.cap k1 k2 k3 _ _ _ (by unfold few; rw [List.length_take, Nat.min_comm]) (by unfold few; rw [List.length_take, Nat.min_comm]) (by unfold few; rw [List.length_take, Nat.min_comm])
theorem SelfR.few {s : S} {AC : Option Addr} {cC : Nat} {AU : Option Addr} {cU : Nat} {AI : Option Addr} {cI : Nat} {w : World} (h : SelfR w s AC cC AU cU AI cI) : SelfR w (few s) AC cC AU cU AI cI := by
  refine ⟨?_, ?_, ?_⟩
  · have := h.costs.take (min s.costs.length 12) (by omega)
    rw [← take_min] at this
    exact ⟨by unfold RoleP.few; simp, this.sl, by have := h.costs.cap; unfold RoleP.few; simp; omega, h.costs.nil⟩
  · have := h.ups.take (min s.ups.length 12) (by omega)
    rw [← take_min] at this
    exact ⟨by unfold RoleP.few; simp, this.sl, by have := h.ups.cap; unfold RoleP.few; simp; omega, h.ups.nil⟩
  · have := h.infos.take (min s.infos.length 12) (by omega)
    rw [← take_min] at this
    exact ⟨by unfold RoleP.few; simp, this.sl, by have := h.infos.cap; unfold RoleP.few; simp; omega, h.infos.nil⟩
end Go.Proofs.Ytdnpcpehjjildaa.RoleP
