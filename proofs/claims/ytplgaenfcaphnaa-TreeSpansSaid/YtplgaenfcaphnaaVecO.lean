/-
  Plain facts of vecs, and the walk of VecOrder.
-/
import Derived.Test.YtplgaenfcaphnaaVecE
namespace Go.Proofs.Ytplgaenfcaphnaa.VecP
open Go.RowKit Go.Sort
set_option linter.unusedVariables false
set_option maxRecDepth 100000

theorem cmpI_cases (a b : Int) : (a < b ∧ cmpI a b = -1) ∨ (a = b ∧ cmpI a b = 0) ∨ (b < a ∧ cmpI a b = 1) := by
  unfold cmpI
  by_cases h : a < b
  · rw [if_pos h]; omega
  · rw [if_neg h]
    by_cases h1 : b < a
    · rw [if_pos h1]; omega
    · rw [if_neg h1]; omega
/-- Better, in words. -/
theorem betB_iff (r c b p r2 c2 b2 p2 : Int) : betB r c b p r2 c2 b2 p2 = true ↔ (r < r2 ∨ r = r2 ∧ (c < c2 ∨ c = c2 ∧ (b < b2 ∨ b = b2 ∧ p < p2))) := by
  unfold betB cmpV
  rw [decide_eq_true_iff]
  rcases cmpI_cases r r2 with ⟨h, e⟩ | ⟨h, e⟩ | ⟨h, e⟩ <;> rcases cmpI_cases c c2 with ⟨h1, e1⟩ | ⟨h1, e1⟩ | ⟨h1, e1⟩ <;> rcases cmpI_cases b b2 with ⟨h2, e2⟩ | ⟨h2, e2⟩ | ⟨h2, e2⟩ <;> rcases cmpI_cases p p2 with ⟨h3, e3⟩ | ⟨h3, e3⟩ | ⟨h3, e3⟩ <;> (repeat' split) <;> omega
theorem betB_false (r c b p r2 c2 b2 p2 : Int) : betB r c b p r2 c2 b2 p2 = false ↔ ¬ (r < r2 ∨ r = r2 ∧ (c < c2 ∨ c = c2 ∧ (b < b2 ∨ b = b2 ∧ p < p2))) := by
  rw [← betB_iff, Bool.not_eq_true]
theorem betB_self (r c b p : Int) : betB r c b p r c b p = false := by rw [betB_false]; omega
theorem betB_trans {r c b p r2 c2 b2 p2 r3 c3 b3 p3 : Int} (h : betB r c b p r2 c2 b2 p2 = true) (h1 : betB r2 c2 b2 p2 r3 c3 b3 p3 = true) : betB r c b p r3 c3 b3 p3 = true := by
  rw [betB_iff] at *; omega
theorem betB_one {r c b p r2 c2 b2 p2 : Int} (h : ¬ (r = r2 ∧ c = c2 ∧ b = b2 ∧ p = p2)) : betB r2 c2 b2 p2 r c b p = !betB r c b p r2 c2 b2 p2 := by
  cases h1 : betB r c b p r2 c2 b2 p2
  · show _ = true
    rw [betB_iff]; rw [betB_false] at h1; omega
  · show _ = false
    rw [betB_false]; rw [betB_iff] at h1; omega

end Go.Proofs.Ytplgaenfcaphnaa.VecP
