/-
  Rows of fours as they come in.
-/
import Derived.Test.YtidoaccidmmalaaStpL
import Derived.OpenShut
import Derived.Test.YtidoaccidmmalaaStpZ
namespace Go.Proofs.Ytidoaccidmmalaa.StpP
open Go.RowKit Go.Sort Go.Proofs.Ytidoaccidmmalaa.SliceP Go.Proofs.Ytidoaccidmmalaa.BoxP Go.Proofs.Ytidoaccidmmalaa.RoleP Go.ChangeShapes Go.WideShapes Go.Deep
set_option linter.unusedVariables false
set_option maxRecDepth 100000
def In4 (w : World) (v : Value) : Prop := ∃ A n c, v = .slice A n c ∧ Row4 w A n c
section
variable {H : Type} {enc : TypeId × Value → H} {w : World} {base : Nat} {spare : Nat → Bool} {held : Bool}
theorem cells_four : Try.prog.cellsOf 62 = 4 := by kernel_rfl
theorem open_four {n : Nat} {cs : List Value} {x : DataW H × List MemPlace} (h : DataW.trod enc Try.prog w base spare held n 62 cs = some x) : ∃ a b c d : Int, cs = [.int .i64 a, .int .i64 b, .int .i64 c, .int .i64 d] := by
  obtain ⟨xs, m, _, _, hlen, hxl, hg⟩ := DataW.trod_array Try.underlying62 h
  rw [cells_four] at hlen
  have k0 := hg 0 (by omega)
  have k1 := hg 1 (by omega)
  have k2 := hg 2 (by omega)
  have k3 := hg 3 (by omega)
  rw [cells_int] at k0 k1 k2 k3
  match cs, hlen, xs, hxl with
  | [c0, c1, c2, c3], _, [y0, y1, y2, y3], _ =>
    obtain ⟨r0, h0, _, _⟩ := DataW.trod_int Try.underlying3 k0
    obtain ⟨r1, h1, _, _⟩ := DataW.trod_int Try.underlying3 k1
    obtain ⟨r2, h2, _, _⟩ := DataW.trod_int Try.underlying3 k2
    obtain ⟨r3, h3, _, _⟩ := DataW.trod_int Try.underlying3 k3
    simp at h0 h1 h2 h3
    subst h0; subst h1; subst h2; subst h3
    exact ⟨r0, r1, r2, r3, rfl⟩
theorem open_script {v : Value} {d : DataW H} {p : List MemPlace} {r : Reach} {b0 : Nat} (hv : Value.okWide Try.prog w r b0 61 v) (h : DataW.Trod enc Try.prog w base (fun _ => true) held 61 v d p) : In4 w v := by
  obtain ⟨a0, len, cap, rfl⟩ := okWide_slice Try.underlying61 hv
  obtain ⟨fuel, hf⟩ := h
  rcases open_slice Try.underlying61 hf with ⟨hcs, _⟩ | ⟨a, len', cap', m, n, D, Pl, hcs, hb, hl, hm, hmm, _, hi⟩
  · simp [Value.cells] at hcs
    obtain ⟨rfl, rfl, rfl⟩ := hcs
    exact ⟨none, 0, 0, rfl, Nat.le_refl _, by omega, fun k hk => absurd hk (by omega)⟩
  simp [Value.cells] at hcs
  obtain ⟨rfl, rfl, rfl⟩ := hcs
  simp only [if_true] at hmm
  subst hmm
  rw [cells_four] at hi
  refine ⟨some a, len, m, rfl, by simpa using hl, hm, fun k hk => ?_⟩
  have hsp : a.spot = none := by
    obtain ⟨cs, hc, ht⟩ := hi 0 (by omega)
    obtain ⟨x, y, z, u, rfl⟩ := open_four ht
    obtain ⟨_, _, hat⟩ := World.cells?_some hc
    have := hat 0 (by simp)
    simpa [Addr.add] using World.cell?_spot this
  obtain ⟨cs, hc, ht⟩ := hi k (by omega)
  obtain ⟨x, y, z, u, rfl⟩ := open_four ht
  obtain ⟨_, _, hat⟩ := World.cells?_some hc
  obtain ⟨b, o, spot⟩ := a
  have hspot : spot = none := hsp
  subst hspot
  have hadd : ∀ i j, ((⟨b, o, none⟩ : Addr).add i).add j = ⟨b, o + i + j, none⟩ := fun i j => by
    unfold Addr.add
    by_cases h1 : i = 0 <;> by_cases h2 : j = 0 <;> simp [h1, h2]
  have c0 := hat 0 (by simp)
  have c1 := hat 1 (by simp)
  have c2 := hat 2 (by simp)
  have c3 := hat 3 (by simp)
  rw [hadd] at c0 c1 c2 c3
  rw [Nat.add_zero] at c0
  exact ⟨b, o, x, y, z, u, rfl, block_lt_of_cell c0, by simpa using c0, by simpa using c1, by simpa using c2, by simpa using c3⟩
end
end Go.Proofs.Ytidoaccidmmalaa.StpP

/-
  StpAges, by stp's contracts (XStpZ: stp_c : StpC).
-/
namespace Go.Proofs.Ytidoaccidmmalaa.StpP
open Go.RowKit Go.Sort Go.Proofs.Ytidoaccidmmalaa.BoxP Go.Proofs.Ytidoaccidmmalaa.VecP Go.Proofs.Ytidoaccidmmalaa.RoleP
set_option linter.unusedVariables false
set_option maxRecDepth 100000
theorem ages_go (id : Int) (l : Value) (m d : Int) (s : Value) {w : World} (_h0 : (Lit.int .i64 id).wf = true) (hl : IntP.InI w l) (_h2 : (Lit.int .i64 m).wf = true) (_h3 : (Lit.int .i64 d).wf = true) (hs : In4 w s) :
    Calls Try.prog 5 #[.int .i64 id, l, .int .i64 m, .int .i64 d, s] w (True1 w) := by
  obtain ⟨A, L, cL, rfl, hL, hcL⟩ := in_row hl
  obtain ⟨A4, n4, c4, rfl, h4⟩ := hs
  exact ages_law stp_c hL hcL h4 id m d
end Go.Proofs.Ytidoaccidmmalaa.StpP
