/-
  Two equal rows are the same; what Tell answers, whatever is asked; a bridge cut by few.
-/
import Derived.Test.YtdnpcpehjjildaaRoleC
import Derived.LoopTactic
namespace Go.Proofs.Ytdnpcpehjjildaa.RoleP
open Go.RowKit Go.Sort Go.Proofs.Ytdnpcpehjjildaa.SliceP Go.Proofs.Ytdnpcpehjjildaa.BoxP Go.Proofs.Ytdnpcpehjjildaa.VecP
open Go.Proofs.Ytdnpcpehjjildaa.IntP (RowI SlI OwnI)
open Go.Proofs.Ytdnpcpehjjildaa.BoolP (RowB SlB)
set_option linter.unusedVariables false
set_option maxRecDepth 100000
section
open Go.Proofs.Ytdnpcpehjjildaa.IntP
set_option maxHeartbeats 2000000 in
theorem same_true {A B : Option Addr} {n c1 m c2 : Nat} {l l' : List Int} {w : World} (hA : RowI w A n c1 l) (hB : RowI w B m c2 l') (he : l = l') (hl : l.length ≤ 1000) :
    Calls Try.prog 16 #[.slice A n c1, .slice B m c2] w fun e w' => e = .returned (.bool true) ∧ Below w.heap.size w w' := by
  subst he
  obtain ⟨rfl, hA, _, _⟩ := hA
  obtain ⟨rfl, hB, _, _⟩ := hB
  have HA := Lib.hid hA
  have HB := Lib.hid hB
  clear hA hB
  go_enter Try.func16, Try.ntmps16
  go_wp2_with fail
  go_loopw [13] (fun i wr => ∃ k : Nat, k ≤ l.length ∧ i = .int .i64 k ∧ Below w.heap.size w wr) (fun i _ => l.length - (intOf i).toNat)
  case atStart => exact ⟨0, by omega, rfl, Below.refl _ _⟩
  case round =>
    obtain ⟨k, hk, rfl, hbr⟩ := hrel
    by_cases hlt : k < l.length
    case neg =>
      obtain rfl : k = l.length := by omega
      go_wp2_with fail
      go_ret
      exact ⟨rfl, hbr⟩
    obtain ⟨x, hx⟩ : ∃ x, l[k]? = some x := ⟨_, List.getElem?_eq_getElem hlt⟩
    obtain ⟨b, o, rfl, hbw, x0⟩ := SlI.at_ HA.out hx
    obtain ⟨g, o2, rfl, hgw, y0⟩ := SlI.at_ HB.out hx
    clear hx
    replace x0 := (hbr.cell (p := ⟨b, _, none⟩) hbw).trans x0
    replace y0 := (hbr.cell (p := ⟨g, _, none⟩) hgw).trans y0
    go_wp2_with fail
    have K_x0 := cell_regrown x0
    have K_y0 := cell_regrown y0
    clear x0 y0
    refine wp_region_quiet_below (by kernel_rfl) (by kernel_rfl) ?_
    repeat (first | go_big_quiet_step (fail) | quiet_step (fail))
    refine wpQuiet_nil ?_
    intro _ hw'
    obtain ⟨⟨dq, osq⟩, hw''⟩ := hw'
    subst hw''
    have hbW1 := below_regrown wr dq osq
    clear K_x0 K_y0
    have BW1 : Below w.heap.size w (Go.Sort.grow (redrawn wr dq) osq) := hbr.trans (hbW1.mono hbr.size)
    clear hbW1 hbr
    generalize Go.Sort.grow (redrawn wr dq) osq = W1 at *
    go_wp2_with fail
    go_roundw
    case rel => exact ⟨k + 1, by omega, by go_num, BW1⟩
    case measure => simp [intOf]; omega
end

theorem eql_vv (v : V) (w : World) : (binOp .eql 29 (vg v) (vg v)).run Try.prog w = .ok (.bool true) w := by go_simp
theorem neq_vv (v : V) (w : World) : (binOp .neq 29 (vg v) (vg v)).run Try.prog w = .ok (.bool false) w := by go_simp
theorem eql_cc (v : V) (a : Int) (w : World) : (binOp .eql 36 (cg v a) (cg v a)).run Try.prog w = .ok (.bool true) w := by go_simp
theorem tell_any (C : RoleC) {s : S} {AC : Option Addr} {cC : Nat} {AU : Option Addr} {cU : Nat} {AI : Option Addr} {cI : Nat} (hok : s.ok = true) (p most : Int) : ∃ (cv : V) (ca : Int) (ti : Bool) (te : Int),
    (∀ w : World, Arg w s AC cC AU cU AI cI → Calls Try.prog 10 #[selfV s.id (.slice AC s.costs.length cC) (.slice AU s.ups.length cU) (.slice AI s.infos.length cI), .int .i64 p, .int .i64 most] w fun e w' => e = .returned (.tuple #[cg cv ca, .bool ti, .int .i64 te]) ∧ Below w.heap.size w w') ∧
    ((p < 0 ∨ (s.costs.length : Int) ≤ p) ∧ cv = V0 ∧ ca = 0 ∧ ti = false ∧ te = 3 ∨ (0 ≤ p ∧ p < (s.costs.length : Int)) ∧ (most < 1 ∨ 255 < most) ∧ cv = V0 ∧ ca = 0 ∧ ti = false ∧ te = 1 ∨
      ∃ k : Nat, p = k ∧ k < s.costs.length ∧ 1 ≤ most ∧ most ≤ 255 ∧ s.told k most = cv ∧ s.toldAge k most = ca ∧ s.tell k most = ti ∧ te = 0) := by
  by_cases h1 : p < 0 ∨ (s.costs.length : Int) ≤ p
  · exact ⟨V0, 0, false, 3, fun w h => C.tell_range hok h h1, .inl ⟨h1, rfl, rfl, rfl, rfl⟩⟩
  · obtain ⟨k, rfl⟩ : ∃ k : Nat, p = k := ⟨p.toNat, by omega⟩
    have hk : k < s.costs.length := by omega
    by_cases h2 : most < 1 ∨ 255 < most
    · exact ⟨V0, 0, false, 1, fun w h => C.tell_arg hok h hk h2, .inr (.inl ⟨by omega, h2, rfl, rfl, rfl, rfl⟩)⟩
    · exact ⟨_, _, _, 0, fun w h => C.tell_ok hok h hk (by omega) (by omega), .inr (.inr ⟨k, rfl, hk, by omega, by omega, rfl, rfl, rfl, rfl⟩)⟩
theorem right_to (C : RoleC) {s : S} {AC : Option Addr} {cC : Nat} {AU : Option Addr} {cU : Nat} {AI : Option Addr} {cI : Nat} {w : World} {b : Bool} (h : s.ok = b) (a : Arg w s AC cC AU cU AI cI) : Calls Try.prog 11 #[selfV s.id (.slice AC s.costs.length cC) (.slice AU s.ups.length cU) (.slice AI s.infos.length cI)] w fun e w' => e = .returned (.bool b) ∧ Below w.heap.size w w' := by
  have := C.right a
  rwa [h] at this
theorem r_right_to {s : S} {AC : Option Addr} {cC : Nat} {AU : Option Addr} {cU : Nat} {AI : Option Addr} {cI : Nat} {w : World} {b : Bool} (h : s.ok = b) (a : Arg w s AC cC AU cU AI cI) : Calls Try.prog 12 #[selfV s.id (.slice AC s.costs.length cC) (.slice AU s.ups.length cU) (.slice AI s.infos.length cI)] w fun e w' => e = .returned (.bool b) ∧ Below w.heap.size w w' := by
  have := r_right a.r a.l
  rwa [h] at this
theorem root_ok_to (C : RoleC) {s : S} {AC : Option Addr} {cC : Nat} {AU : Option Addr} {cU : Nat} {AI : Option Addr} {cI : Nat} {w : World} {v : V} {n : Int} (h : s.ok = true) (hv : s.tells 0 = v) (hn : s.rootI = n) (a : Arg w s AC cC AU cU AI cI) : Calls Try.prog 8 #[selfV s.id (.slice AC s.costs.length cC) (.slice AU s.ups.length cU) (.slice AI s.infos.length cI)] w fun e w' => e = .returned (.tuple #[vg v, .int .i64 n, .int .i64 0]) ∧ Below w.heap.size w w' := by
  have := C.root_ok h a
  rwa [hv, hn] at this
theorem tell_to {s : S} {AC : Option Addr} {cC : Nat} {AU : Option Addr} {cU : Nat} {AI : Option Addr} {cI : Nat} {w : World} {p : Nat} {most : Int} {v : V} {n : Int} {b : Bool} (h : s.ok = true) (hp : p < s.costs.length) (hv : s.told p most = v) (hn : s.toldAge p most = n) (hb : s.tell p most = b) (a : Arg w s AC cC AU cU AI cI) : Calls Try.prog 18 #[selfV s.id (.slice AC s.costs.length cC) (.slice AU s.ups.length cU) (.slice AI s.infos.length cI), .int .i64 p, .int .i64 most] w fun e w' => e = .returned (.tuple #[cg v n, .bool b]) ∧ Below w.heap.size w w' := by
  have := r_tell ⟨h⟩ a.r hp most
  rwa [hv, hn, hb] at this
theorem Arg.new {w W : World} {s : S} {AC : Option Addr} {cC : Nat} {AU : Option Addr} {cU : Nat} {AI : Option Addr} {cI : Nat} (h : SelfR w s AC cC AU cU AI cI) (hb : Below w.heap.size w W) (k : cC ≤ 9223372036854775807 ∧ cU ≤ 9223372036854775807 ∧ cI ≤ 9223372036854775807) : Arg W (few s) AC cC AU cU AI cI := ⟨(h.below hb).few, few_len s, k⟩
end Go.Proofs.Ytdnpcpehjjildaa.RoleP
