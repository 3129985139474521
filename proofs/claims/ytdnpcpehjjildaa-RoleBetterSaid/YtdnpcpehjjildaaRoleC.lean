/-
  What is asked of role's own functions; the statements' alive.
-/
import Derived.Test.YtdnpcpehjjildaaRoleF
import Derived.Test.YtdnpcpehjjildaaRoleO
import Derived.Test.YtdnpcpehjjildaaRoleM
namespace Go.Proofs.Ytdnpcpehjjildaa.RoleP
open Go.RowKit Go.Sort Go.Proofs.Ytdnpcpehjjildaa.SliceP Go.Proofs.Ytdnpcpehjjildaa.BoxP Go.Proofs.Ytdnpcpehjjildaa.VecP
open Go.Proofs.Ytdnpcpehjjildaa.IntP (RowI SlI OwnI)
open Go.Proofs.Ytdnpcpehjjildaa.BoolP (RowB SlB)
set_option linter.unusedVariables false
set_option maxRecDepth 100000
/-- A bridge that is handed on. -/
structure Arg (w : World) (s : S) (AC : Option Addr) (cC : Nat) (AU : Option Addr) (cU : Nat) (AI : Option Addr) (cI : Nat) : Prop where
  r : SelfR w s AC cC AU cU AI cI
  l : s.costs.length ≤ 1000 ∧ s.ups.length ≤ 1000 ∧ s.infos.length ≤ 1000
  c : cC ≤ 9223372036854775807 ∧ cU ≤ 9223372036854775807 ∧ cI ≤ 9223372036854775807
theorem Arg.below {w w' : World} {s : S} {AC : Option Addr} {cC : Nat} {AU : Option Addr} {cU : Nat} {AI : Option Addr} {cI : Nat} (h : Arg w s AC cC AU cU AI cI) (hb : Below w.heap.size w w') : Arg w' s AC cC AU cU AI cI := ⟨h.r.below hb, h.l, h.c⟩
/-- The contracts of role's own functions. -/
structure RoleC : Prop where
  right : ∀ {s : S} {AC : Option Addr} {cC : Nat} {AU : Option Addr} {cU : Nat} {AI : Option Addr} {cI : Nat} {w : World}, Arg w s AC cC AU cU AI cI → Calls Try.prog 11 #[selfV s.id (.slice AC s.costs.length cC) (.slice AU s.ups.length cU) (.slice AI s.infos.length cI)] w fun e w' => e = .returned (.bool s.ok) ∧ Below w.heap.size w w'
  root_ok : ∀ {s : S} {AC : Option Addr} {cC : Nat} {AU : Option Addr} {cU : Nat} {AI : Option Addr} {cI : Nat} {w : World}, s.ok = true → Arg w s AC cC AU cU AI cI → Calls Try.prog 8 #[selfV s.id (.slice AC s.costs.length cC) (.slice AU s.ups.length cU) (.slice AI s.infos.length cI)] w fun e w' => e = .returned (.tuple #[vg (s.tells 0), .int .i64 s.rootI, .int .i64 0]) ∧ Below w.heap.size w w'
  root_no : ∀ {s : S} {AC : Option Addr} {cC : Nat} {AU : Option Addr} {cU : Nat} {AI : Option Addr} {cI : Nat} {w : World}, s.ok = false → Arg w s AC cC AU cU AI cI → Calls Try.prog 8 #[selfV s.id (.slice AC s.costs.length cC) (.slice AU s.ups.length cU) (.slice AI s.infos.length cI)] w fun e w' => e = .returned (.tuple #[vg V0, .int .i64 0, .int .i64 1]) ∧ Below w.heap.size w w'
  roles_ok : ∀ {s : S} {AC : Option Addr} {cC : Nat} {AU : Option Addr} {cU : Nat} {AI : Option Addr} {cI : Nat} {w : World}, s.ok = true → Arg w s AC cC AU cU AI cI → Calls Try.prog 9 #[selfV s.id (.slice AC s.costs.length cC) (.slice AU s.ups.length cU) (.slice AI s.infos.length cI)] w fun e w' => ∃ A c, e = .returned (.tuple #[.slice A s.roles.length c, .int .i64 0]) ∧ RowI w' A s.roles.length c s.roles ∧ Below w.heap.size w w'
  roles_no : ∀ {s : S} {AC : Option Addr} {cC : Nat} {AU : Option Addr} {cU : Nat} {AI : Option Addr} {cI : Nat} {w : World}, s.ok = false → Arg w s AC cC AU cU AI cI → Calls Try.prog 9 #[selfV s.id (.slice AC s.costs.length cC) (.slice AU s.ups.length cU) (.slice AI s.infos.length cI)] w fun e w' => ∃ A c, e = .returned (.tuple #[.slice A 0 c, .int .i64 1]) ∧ Below w.heap.size w w'
  tell_ok : ∀ {s : S} {AC : Option Addr} {cC : Nat} {AU : Option Addr} {cU : Nat} {AI : Option Addr} {cI : Nat} {w : World} {p : Nat} {most : Int}, s.ok = true → Arg w s AC cC AU cU AI cI → p < s.costs.length → 1 ≤ most → most ≤ 255 → Calls Try.prog 10 #[selfV s.id (.slice AC s.costs.length cC) (.slice AU s.ups.length cU) (.slice AI s.infos.length cI), .int .i64 p, .int .i64 most] w fun e w' => e = .returned (.tuple #[cg (s.told p most) (s.toldAge p most), .bool (s.tell p most), .int .i64 0]) ∧ Below w.heap.size w w'
  tell_no : ∀ {s : S} {AC : Option Addr} {cC : Nat} {AU : Option Addr} {cU : Nat} {AI : Option Addr} {cI : Nat} {w : World} {p most : Int}, s.ok = false → Arg w s AC cC AU cU AI cI → Calls Try.prog 10 #[selfV s.id (.slice AC s.costs.length cC) (.slice AU s.ups.length cU) (.slice AI s.infos.length cI), .int .i64 p, .int .i64 most] w fun e w' => e = .returned (.tuple #[cg V0 0, .bool false, .int .i64 1]) ∧ Below w.heap.size w w'
  tell_range : ∀ {s : S} {AC : Option Addr} {cC : Nat} {AU : Option Addr} {cU : Nat} {AI : Option Addr} {cI : Nat} {w : World} {p most : Int}, s.ok = true → Arg w s AC cC AU cU AI cI → (p < 0 ∨ s.costs.length ≤ p) → Calls Try.prog 10 #[selfV s.id (.slice AC s.costs.length cC) (.slice AU s.ups.length cU) (.slice AI s.infos.length cI), .int .i64 p, .int .i64 most] w fun e w' => e = .returned (.tuple #[cg V0 0, .bool false, .int .i64 3]) ∧ Below w.heap.size w w'
  tell_arg : ∀ {s : S} {AC : Option Addr} {cC : Nat} {AU : Option Addr} {cU : Nat} {AI : Option Addr} {cI : Nat} {w : World} {p : Nat} {most : Int}, s.ok = true → Arg w s AC cC AU cU AI cI → p < s.costs.length → (most < 1 ∨ 255 < most) → Calls Try.prog 10 #[selfV s.id (.slice AC s.costs.length cC) (.slice AU s.ups.length cU) (.slice AI s.infos.length cI), .int .i64 p, .int .i64 most] w fun e w' => e = .returned (.tuple #[cg V0 0, .bool false, .int .i64 1]) ∧ Below w.heap.size w w'
theorem Bx.sl {w : World} {b size : Nat} {T : TypeId} {vals : Array Value} {xs : List (List Value)} (h : Bx w b T vals) (hv : vals.toList = xs.flatten) (hl : ∀ c ∈ xs, c.length = size) : Sl w size (some ⟨b, 0, none⟩) xs := fun _ => ⟨b, 0, rfl, h.lt, fun k cs hk j v hj => by
  have := getElem?_flatten xs size k j cs v hl hk hj
  rw [← hv] at this
  rw [Nat.zero_add]
  exact h.c (by simpa using this)⟩
/-- Whom alive asks. -/
def sA : S := ⟨5, [10], [true], [⟨true, ⟨1, 0, 1, 0⟩, 0⟩]⟩
theorem sA_root : sA.root = some 0 := by
  have h : sA.best 1 = some 0 := best_first (s := sA) (k := 0) rfl rfl
  unfold S.root
  rw [show sA.infos.length = 1 from rfl, h]
  exact if_pos (by decide)
theorem sA_tells : sA.tells 0 = ⟨1, 10, 5, 0⟩ := by unfold S.tells; rw [sA_root]; rfl
theorem sA_arg {w : World} {a b c : Nat} (h1 : Bx w a 3 #[.int .i64 10]) (h2 : Bx w b 4 #[.bool true]) (h3 : Bx w c 49 #[.bool true, .int .i64 1, .int .i64 0, .int .i64 1, .int .i64 0, .int .i64 0]) : Arg w sA (some ⟨a, 0, none⟩) 1 (some ⟨b, 0, none⟩) 1 (some ⟨c, 0, none⟩) 1 :=
  ⟨⟨⟨rfl, RoleP.Bx.sl h1 rfl (by decide), Nat.le_refl _, fun e => by cases e⟩, ⟨rfl, RoleP.Bx.sl h2 rfl (by decide), Nat.le_refl _, fun e => by cases e⟩, ⟨rfl, RoleP.Bx.sl h3 rfl (by decide), Nat.le_refl _, fun e => by cases e⟩⟩, by decide, by decide⟩
theorem alive_call (C : RoleC) {w : World} {A1 A2 A3 : Option Addr} (h : Arg w sA A1 1 A2 1 A3 1) : Calls Try.prog 8 #[.agg #[.int .i64 5, .slice A1 1 1, .slice A2 1 1, .slice A3 1 1]] w fun e w' => e = .returned (.tuple #[.agg #[.int .i64 1, .int .i64 10, .int .i64 5, .int .i64 0], .int .i64 0, .int .i64 0]) ∧ Below w.heap.size w w' := by
  have := C.root_ok (by decide) h
  rw [sA_tells, show sA.rootI = 0 by unfold S.rootI; rw [sA_root]; rfl] at this
  exact this
set_option maxHeartbeats 8000000 in
theorem alive_any (C : RoleC) (w : World) : Calls Try.prog 13 #[] w fun e w' => e = .returned (.bool true) ∧ Below w.heap.size w w' := by
  go_enter Try.func13, Try.ntmps13
  go_wp2_with fail
  obtain ⟨w0, hw0⟩ : ∃ W, W = ((w.alloc (.cells #[.int .i64 10] 3)).alloc (.cells #[.bool true] 4)).alloc (.cells #[.bool true, .int .i64 1, .int .i64 0, .int .i64 1, .int .i64 0, .int .i64 0] 49) := ⟨_, rfl⟩
  have B := Lib.hid (show Below w.heap.size w w0 by rw [hw0]; exact (((Below.refl _ _).alloc (Nat.le_refl _) _).alloc (by simp) _).alloc (by simp; omega) _)
  have X := Lib.hid (show Arg w0 sA (some ⟨w.heap.size, 0, none⟩) 1 (some ⟨w.heap.size + 1, 0, none⟩) 1 (some ⟨w.heap.size + 2, 0, none⟩) 1 by
    rw [hw0]; exact sA_arg (((Bx.new _ _ _ rfl).alloc _).alloc _) ((Bx.new _ _ _ (by simp)).alloc _) (Bx.new _ _ _ (by simp)))
  rw [← hw0]
  clear hw0
  replace B := B.out
  go_at_call 8
  (with_reducible refine (alive_call C X.out).mono ?_)
  rintro e w1 ⟨rfl, hb1⟩
  have B_w1 := bt B hb1
  clear B hb1
  go_wp2_with fail
  obtain ⟨w2, hw2⟩ : ∃ W, W = w1.alloc (.cells #[.int .i64 1, .int .i64 10, .int .i64 5, .int .i64 0] 29) := ⟨_, rfl⟩
  have bw2 : Below w1.heap.size w1 w2 := by rw [hw2]; exact (Below.refl _ _).alloc (Nat.le_refl _) _
  have Xw2 : Bx w2 w1.heap.size 29 #[.int .i64 1, .int .i64 10, .int .i64 5, .int .i64 0] := by rw [hw2]; exact Bx.new _ _ _ rfl
  rw [← hw2]
  clear hw2
  have BS_w2 := Lib.hid (Xw2)
  have B_w2 := bt B_w1 bw2
  clear B_w1 bw2
  have z0_w2 : w1.heap.size < w2.heap.size := Xw2.lt
  clear Xw2
  have o_BS_0 := BS_w2.out.c (i := 0) rfl
  have o_BS_1 := BS_w2.out.c (i := 1) rfl
  have o_BS_2 := BS_w2.out.c (i := 2) rfl
  have o_BS_3 := BS_w2.out.c (i := 3) rfl
  go_wp2_with fail
  go_ret
  exact ⟨rfl, B_w2⟩
end Go.Proofs.Ytdnpcpehjjildaa.RoleP
