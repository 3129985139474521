/-
  Rows of threes as they come in; FdbForgets over them.
-/
import Derived.Test.YtnghilcjecjljaaFdbZ
import Derived.Test.YtnghilcjecjljaaFdbR
import Derived.OpenShut
namespace Go.Proofs.Ytnghilcjecjljaa.FdbP
open Go.RowKit Go.Sort Go.Proofs.Ytnghilcjecjljaa.SliceP Go.Proofs.Ytnghilcjecjljaa.MacP Go.ChangeShapes Go.WideShapes Go.Deep
set_option linter.unusedVariables false
set_option maxRecDepth 100000

def In3 (w : World) (v : Value) : Prop := ∃ A n c, v = .slice A n c ∧ Row3 w A n c
section
variable {H : Type} {enc : TypeId × Value → H} {w : World} {base : Nat} {spare : Nat → Bool} {held : Bool}
theorem cells_three : Try.prog.cellsOf 50 = 3 := by kernel_rfl
theorem open_three {n : Nat} {cs : List Value} {x : DataW H × List MemPlace} (h : DataW.trod enc Try.prog w base spare held n 50 cs = some x) : ∃ a b c : Int, cs = [.int .i64 a, .int .i64 b, .int .i64 c] := by
  obtain ⟨xs, m, _, _, hlen, hxl, hg⟩ := DataW.trod_array Try.underlying50 h
  rw [cells_three] at hlen
  have k0 := hg 0 (by omega)
  have k1 := hg 1 (by omega)
  have k2 := hg 2 (by omega)
  rw [cells_int] at k0 k1 k2
  match cs, hlen, xs, hxl with
  | [c0, c1, c2], _, [y0, y1, y2], _ =>
    obtain ⟨r0, h0, _, _⟩ := DataW.trod_int Try.underlying3 k0
    obtain ⟨r1, h1, _, _⟩ := DataW.trod_int Try.underlying3 k1
    obtain ⟨r2, h2, _, _⟩ := DataW.trod_int Try.underlying3 k2
    simp at h0 h1 h2
    subst h0; subst h1; subst h2
    exact ⟨r0, r1, r2, rfl⟩
theorem open_script {v : Value} {d : DataW H} {p : List MemPlace} {r : Reach} {b0 : Nat} (hv : Value.okWide Try.prog w r b0 48 v) (h : DataW.Trod enc Try.prog w base (fun _ => true) held 48 v d p) : In3 w v := by
  obtain ⟨a0, len, cap, rfl⟩ := okWide_slice Try.underlying48 hv
  obtain ⟨fuel, hf⟩ := h
  rcases open_slice Try.underlying48 hf with ⟨hcs, _⟩ | ⟨a, len', cap', m, n, D, Pl, hcs, hb, hl, hm, hmm, _, hi⟩
  · simp [Value.cells] at hcs
    obtain ⟨rfl, rfl, rfl⟩ := hcs
    exact ⟨none, 0, 0, rfl, Nat.le_refl _, by omega, fun k hk => absurd hk (by omega)⟩
  simp [Value.cells] at hcs
  obtain ⟨rfl, rfl, rfl⟩ := hcs
  simp only [if_true] at hmm
  subst hmm
  rw [cells_three] at hi
  refine ⟨some a, len, m, rfl, hl, by unfold maxLen at hm; omega, fun k hk => ?_⟩
  have hsp : a.spot = none := by
    obtain ⟨cs, hc, ht⟩ := hi 0 (by omega)
    obtain ⟨x, y, z, rfl⟩ := open_three ht
    obtain ⟨_, _, hat⟩ := World.cells?_some hc
    have := hat 0 (by simp)
    simpa [Addr.add] using World.cell?_spot this
  obtain ⟨cs, hc, ht⟩ := hi k (by omega)
  obtain ⟨x, y, z, rfl⟩ := open_three ht
  obtain ⟨_, _, hat⟩ := World.cells?_some hc
  obtain ⟨b, o, spot⟩ := a
  have hspot : spot = none := hsp
  subst hspot
  have hadd : ∀ i j, ((⟨b, o, none⟩ : Addr).add i).add j = ⟨b, o + i + j, none⟩ := fun i j => by
    unfold Addr.add
    by_cases h1 : i = 0 <;> by_cases h2 : j = 0 <;> simp [h1, h2]
  have c0 := hat 0 (by simp)
  have c1 := hat 1 (by simp)
  have c2 := hat 2 (by simp)
  rw [hadd] at c0 c1 c2
  rw [Nat.add_zero] at c0
  exact ⟨b, o, x, y, z, rfl, block_lt_of_cell c0, by simpa using c0, by simpa using c1, by simpa using c2⟩
end
theorem forgets_in (n0 s0 g0 : Int) (v : Value) {w : World} (_h0 : (Lit.int .i64 n0).wf = true) (_h1 : (Lit.int .i64 s0).wf = true) (_h2 : (Lit.int .i64 g0).wf = true) (h : In3 w v) :
    Calls Try.prog 5 #[.int .i64 n0, .int .i64 s0, .int .i64 g0, v] w (IntP.True1 w) := by
  obtain ⟨A, n, c, rfl, hR⟩ := h
  exact forgets_law n0 s0 g0 A n c hR
end Go.Proofs.Ytnghilcjecjljaa.FdbP
