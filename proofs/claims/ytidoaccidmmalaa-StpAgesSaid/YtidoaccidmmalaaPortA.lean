/-
  How far a port is: plainly.
-/
import Derived.Test.YtidoaccidmmalaaBx
import Derived.Lib.QuietBelow
import Derived.LoopTactic
import Derived.BigQuiet
import Derived.Deep.QuietTactic
namespace Go.Proofs.Ytidoaccidmmalaa.PortP
open Go.RowKit Go.Sort Go.Proofs.Ytidoaccidmmalaa.BoxP
set_option linter.unusedVariables false
set_option maxRecDepth 100000

theorem bt {w a b : World} (h1 : Below w.heap.size w a) (h2 : Below a.heap.size a b) : Below w.heap.size w b := h1.trans (h2.mono h1.size)
def True1 (w : World) (e : Ending) (w' : World) : Prop := e = .returned (.bool true) ∧ Below w.heap.size w w'
theorem Bx.c2 {w : World} {b : Nat} {T : TypeId} {v0 v1 : Value} (h : Bx w b T #[v0, v1]) : w.cell? ⟨b, 0, none⟩ = some v0 ∧ w.cell? ⟨b, 1, none⟩ = some v1 := ⟨h.c (i := 0) rfl, h.c (i := 1) rfl⟩
theorem Bx.two {w : World} {b : Nat} {T : TypeId} {v0 v1 u0 u1 : Value} (h : Bx w b T #[v0, v1]) : Bx ((w.setCell ⟨b, 0, none⟩ u0).setCell ⟨b, 1, none⟩ u1) b T #[u0, u1] := (h.set 0 u0).set 1 u1
theorem below2 {n b : Nat} {w0 w : World} (h : Below n w0 w) (hb : n ≤ b) (v0 v1 : Value) : Below n w0 ((w.setCell ⟨b, 0, none⟩ v0).setCell ⟨b, 1, none⟩ v1) := (h.setCell hb _).setCell hb _

abbrev PT : TypeId := 80
abbrev sv (s l : Int) : Value := .agg #[.int .i64 s, .int .i64 l]
abbrev so (s l : Int) : Obj := .cells #[.int .i64 s, .int .i64 l] 80
def okS (s l d : Int) : Bool := !decide (d < 1) && (!decide (30 < d) && (if s = 1 ∨ s = 2 then decide (1 ≤ l) && decide (l ≤ d) else (decide (s = 0) || decide (s = 3)) && decide (l = 0)))
def roleS (s l d : Int) (a : Bool) : Int × Int := if a = true then (if s = 0 then (1, d) else (s, l)) else (0, 0)
def tickS (s l d : Int) : Int × Int := if s = 1 ∨ s = 2 then (if 1 < l then (s, l - 1) else if s = 1 then (2, d) else (3, 0)) else (s, l)
def leftS (s l d : Int) : Int := if s = 0 then 2 * d else if s = 1 then d + l else if s = 2 then l else 0
theorem ok_iff {s l d : Int} : okS s l d = true ↔ (1 ≤ d ∧ d ≤ 30) ∧ ((s = 0 ∧ l = 0) ∨ (s = 1 ∧ 1 ≤ l ∧ l ≤ d) ∨ (s = 2 ∧ 1 ≤ l ∧ l ≤ d) ∨ (s = 3 ∧ l = 0)) := by
  unfold okS
  by_cases h1 : s = 1
  · subst h1; simp; omega
  · by_cases h2 : s = 2
    · subst h2; simp; omega
    · rw [if_neg (by omega)]
      simp
      omega
theorem ok_role {s l d : Int} {a : Bool} (h : okS s l d = true) : okS (roleS s l d a).1 (roleS s l d a).2 d = true := by
  rw [ok_iff] at h ⊢
  obtain ⟨hd, h⟩ := h
  refine ⟨hd, ?_⟩
  unfold roleS
  cases a with
  | false => simp
  | true =>
    by_cases h0 : s = 0
    · simp [h0]; omega
    · simp only [if_true, if_neg h0]; exact h
theorem ok_tick {s l d : Int} (h : okS s l d = true) : okS (tickS s l d).1 (tickS s l d).2 d = true := by
  rw [ok_iff] at h ⊢
  obtain ⟨hd, h⟩ := h
  refine ⟨hd, ?_⟩
  unfold tickS
  rcases h with ⟨rfl, rfl⟩ | ⟨rfl, h1, h2⟩ | ⟨rfl, h1, h2⟩ | ⟨rfl, rfl⟩
  · simp
  · by_cases hl : 1 < l
    · simp [hl]; omega
    · simp [hl]; omega
  · by_cases hl : 1 < l
    · simp [hl]; omega
    · simp [hl]
  · simp
/-- Where it is behind so many ticks, made active: as it is then, and as it was told. -/
def stA (d i : Int) : Int × Int := if i < d then (1, d - i) else if i < 2 * d then (2, 2 * d - i) else (3, 0)
def stS (d i : Int) : Int × Int := if i = 0 then (0, 0) else stA d i
section
variable {d i : Int}
theorem st_ok (h1 : 1 ≤ d) (h2 : d ≤ 30) (h0 : 0 ≤ i) : okS (stA d i).1 (stA d i).2 d = true ∧ okS (stS d i).1 (stS d i).2 d = true := by
  have hA : okS (stA d i).1 (stA d i).2 d = true := by
    rw [ok_iff]
    refine ⟨⟨h1, h2⟩, ?_⟩
    unfold stA
    by_cases c1 : i < d
    · simp [c1]; omega
    · by_cases c2 : i < 2 * d
      · simp [c1, c2]; omega
      · simp [c1, c2]
  refine ⟨hA, ?_⟩
  unfold stS
  by_cases c : i = 0
  · rw [if_pos c, ok_iff]; simp; omega
  · rw [if_neg c]; exact hA
theorem st_role (h1 : 1 ≤ d) (h0 : 0 ≤ i) : roleS (stS d i).1 (stS d i).2 d true = stA d i ∧ roleS (stA d i).1 (stA d i).2 d true = stA d i := by
  unfold stS roleS
  have hA : (if (stA d i).1 = 0 then ((1 : Int), d) else ((stA d i).1, (stA d i).2)) = stA d i := by
    unfold stA
    by_cases c1 : i < d
    · simp [c1]
    · by_cases c2 : i < 2 * d
      · simp [c1, c2]
      · simp [c1, c2]
  refine ⟨?_, by simpa using hA⟩
  by_cases c : i = 0
  · subst c; unfold stA; simp; omega
  · simp only [if_neg c]; simpa using hA
theorem st_tick (h1 : 1 ≤ d) (h0 : 0 ≤ i) : tickS (stA d i).1 (stA d i).2 d = stS d (i + 1) := by
  unfold stS stA tickS
  by_cases c1 : i < d
  · by_cases c : i + 1 < d
    · have e1 : (1 : Int) < d - i := by omega
      have e2 : ¬ i + 1 = 0 := by omega
      simp [c1, c, e1, e2]; omega
    · have e1 : ¬ (1 : Int) < d - i := by omega
      have e2 : ¬ i + 1 = 0 := by omega
      have e3 : i + 1 < 2 * d := by omega
      simp [c1, c, e1, e2, e3]; omega
  · by_cases c2 : i < 2 * d
    · by_cases c : i + 1 < 2 * d
      · have e1 : (1 : Int) < 2 * d - i := by omega
        have e2 : ¬ i + 1 = 0 := by omega
        have e3 : ¬ i + 1 < d := by omega
        simp [c1, c2, c, e1, e2, e3]; omega
      · have e1 : ¬ (1 : Int) < 2 * d - i := by omega
        have e2 : ¬ i + 1 = 0 := by omega
        have e3 : ¬ i + 1 < d := by omega
        simp [c1, c2, c, e1, e2, e3]
    · have e2 : ¬ i + 1 = 0 := by omega
      have e3 : ¬ i + 1 < d := by omega
      have e4 : ¬ i + 1 < 2 * d := by omega
      simp [c1, c2, e2, e3, e4]
theorem st_left (h1 : 1 ≤ d) (h0 : 0 ≤ i) : leftS (stS d i).1 (stS d i).2 d = if i < 2 * d then 2 * d - i else 0 := by
  unfold stS stA leftS
  by_cases c : i = 0
  · subst c; simp; omega
  · by_cases c1 : i < d
    · have e : i < 2 * d := by omega
      simp [c, c1, e]; omega
    · by_cases c2 : i < 2 * d
      · simp [c, c1, c2]
      · simp [c, c1, c2]
theorem st_may (h1 : 1 ≤ d) (h0 : 0 ≤ i) : (decide ((stA d i).1 = 2) || decide ((stA d i).1 = 3)) = decide (d ≤ i) ∧ decide ((stA d i).1 = 3) = decide (2 * d ≤ i) := by
  unfold stA
  by_cases c1 : i < d
  · have e1 : ¬ d ≤ i := by omega
    have e2 : ¬ 2 * d ≤ i := by omega
    simp [c1, e1, e2]
  · have e1 : d ≤ i := by omega
    by_cases c2 : i < 2 * d
    · have e2 : ¬ 2 * d ≤ i := by omega
      simp [c1, c2, e1, e2]
    · have e2 : 2 * d ≤ i := by omega
      simp [c1, c2, e1, e2]
end
theorem eql_same (x y : Int) (w : World) : (binOp .eql 80 (sv x y) (sv x y)).run Try.prog w = .ok (.bool true) w := by go_simp
theorem neq_same (x y : Int) (w : World) : (binOp .neq 80 (sv x y) (sv x y)).run Try.prog w = .ok (.bool false) w := by go_simp
end Go.Proofs.Ytidoaccidmmalaa.PortP
