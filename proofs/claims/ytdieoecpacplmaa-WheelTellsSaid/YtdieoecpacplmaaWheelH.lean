/-
  Contracts of wheel.Cancel, Advance, Next.
-/
import Derived.Test.YtdieoecpacplmaaWheelN
namespace Go.Proofs.Ytdieoecpacplmaa.WheelP
open Go.RowKit Go.Sort Go.Proofs.Ytdieoecpacplmaa.SliceP Go.Proofs.Ytdieoecpacplmaa.MacP
set_option linter.unusedVariables false
set_option maxRecDepth 100000

/-- A row that is read, with room for what it holds. -/
structure RowT (w : World) (A : Option Addr) (n c : Nat) (l : List T) : Prop where
  len : n = l.length
  sl : SlT w A l
  cap : n ≤ c
  nil : A = none → c = 0
theorem RowT.below {w w' : World} {A : Option Addr} {n c : Nat} {l : List T} (h : RowT w A n c l) (hb : Below w.heap.size w w') : RowT w' A n c l := ⟨h.len, h.sl.below hb, h.cap, h.nil⟩
theorem own_row {w : World} {B : Nat} {A : Option Addr} {n c : Nat} {l : List T} (h : OwnT w B (.slice A n c) l) : RowT w A n c l := by
  obtain ⟨A', c', hv, h1, _, hA⟩ := h.form
  have hsl := h.sl (by decide)
  injection hv with e1 e2 e3
  subst e1; subst e3
  rw [flatT_length] at e2 h1
  refine ⟨e2, hsl, by omega, fun hn => ?_⟩
  rcases hA with ⟨_, _, h0⟩ | ⟨g, h1, _⟩
  · exact h0
  · rw [hn] at h1; cases h1

theorem right_any {A : Option Addr} {n c : Nat} {l : List T} {w : World} (h : RowT w A n c l) (hl : l.length ≤ 1000) (b : Bool) (hb : rightB l = b) :
    Calls Try.prog 13 #[.slice A n c] w fun e w' => e = .returned (.bool b) ∧ Below w.heap.size w w' := by
  obtain ⟨rfl, h1, h2, h3⟩ := h
  subst hb
  by_cases h64 : 64 < l.length
  · exact right_long A c l w hl h64
  · exact right_short A c l w (by omega) h2 h1

/-- A row, new, and a number are handed back. -/
def Ret1 (w : World) (l : List T) (n : Int) (e : Ending) (w' : World) : Prop :=
  ∃ A c, e = .returned (.tuple #[.slice A l.length c, .int .i64 n]) ∧ OwnT w' w.heap.size (.slice A l.length c) l ∧ Below w.heap.size w w'
theorem ret1_nil {w w' : World} {n : Int} (hb : Below w.heap.size w w') : Ret1 w [] n (.returned (.tuple #[.slice none 0 0, .int .i64 n])) w' := ⟨none, 0, rfl, Own.nil _ _ _ _, hb⟩

set_option maxHeartbeats 1000000 in
theorem cancel_bad {A : Option Addr} {n c : Nat} {l : List T} {w : World} (h : RowT w A n c l) (hl : l.length ≤ 1000) (id : Int) (hb : rightB l = false) :
    Calls Try.prog 9 #[.slice A n c, .int .i64 id] w (Ret1 w [] 1) := by
  have H := Lib.hid h
  have HB := Lib.hid hb
  clear h hb
  go_enter Try.func9, Try.ntmps9
  go_wp2_with fail
  go_at_call 13
  (with_reducible refine (right_any H.out hl _ HB.out).mono ?_)
  rintro e w1 ⟨rfl, hb1⟩
  go_wp2_with fail
  go_ret2
  exact ret1_nil hb1
set_option maxHeartbeats 1000000 in
theorem cancel_neg {A : Option Addr} {n c : Nat} {l : List T} {w : World} (h : RowT w A n c l) (hl : l.length ≤ 1000) (id : Int) (hb : rightB l = true) (hid : id < 0) :
    Calls Try.prog 9 #[.slice A n c, .int .i64 id] w (Ret1 w [] 1) := by
  have H := Lib.hid h
  have HB := Lib.hid hb
  clear h hb
  go_enter Try.func9, Try.ntmps9
  go_wp2_with fail
  go_at_call 13
  (with_reducible refine (right_any H.out hl _ HB.out).mono ?_)
  rintro e w1 ⟨rfl, hb1⟩
  go_wp2_with fail
  go_ret2
  exact ret1_nil hb1
theorem has_row {A : Option Addr} {n c : Nat} {l : List T} {w : World} (h : RowT w A n c l) (hl : l.length ≤ 1000) (id : Int) (b : Bool) (hb : hasI l id = b) :
    Calls Try.prog 27 #[.slice A n c, .int .i64 id] w fun e w' => e = .returned (.bool b) ∧ Below w.heap.size w w' :=
  has_is A c n l id b w h.len (by omega) h.sl hb
theorem without_row {A : Option Addr} {n c : Nat} {l : List T} {w : World} (h : RowT w A n c l) (hl : l.length ≤ 1000) (id : Int) :
    Calls Try.prog 22 #[.slice A n c, .int .i64 id] w (RetT w (without l id)) := by
  obtain ⟨rfl, h1, _, _⟩ := h
  exact without_any A c l id w hl h1
set_option maxHeartbeats 1000000 in
theorem cancel_none {A : Option Addr} {n c : Nat} {l : List T} {w : World} (h : RowT w A n c l) (hl : l.length ≤ 1000) (id : Int) (hb : rightB l = true) (hid : 0 ≤ id) (hh : hasI l id = false) :
    Calls Try.prog 9 #[.slice A n c, .int .i64 id] w (Ret1 w [] 4) := by
  have H := Lib.hid h
  have HB := Lib.hid hb
  have HH := Lib.hid hh
  clear h hb hh
  go_enter Try.func9, Try.ntmps9
  go_wp2_with fail
  go_at_call 13
  (with_reducible refine (right_any H.out hl _ HB.out).mono ?_)
  rintro e w1 ⟨rfl, hb1⟩
  go_wp2_with fail
  go_at_call 27
  (with_reducible refine (has_row (H.out.below hb1) hl id _ HH.out).mono ?_)
  rintro e w2 ⟨rfl, hb2⟩
  have B2 : Below w.heap.size w w2 := hb1.trans (hb2.mono hb1.size)
  clear hb1 hb2
  go_wp2_with fail
  go_ret2
  exact ret1_nil B2
set_option maxHeartbeats 1000000 in
theorem cancel_good {A : Option Addr} {n c : Nat} {l : List T} {w : World} (h : RowT w A n c l) (hl : l.length ≤ 1000) (id : Int) (hb : rightB l = true) (hid : 0 ≤ id) (hh : hasI l id = true) :
    Calls Try.prog 9 #[.slice A n c, .int .i64 id] w (Ret1 w (without l id) 0) := by
  have H := Lib.hid h
  have HB := Lib.hid hb
  have HH := Lib.hid hh
  clear h hb hh
  go_enter Try.func9, Try.ntmps9
  go_wp2_with fail
  go_at_call 13
  (with_reducible refine (right_any H.out hl _ HB.out).mono ?_)
  rintro e w1 ⟨rfl, hb1⟩
  go_wp2_with fail
  go_at_call 27
  (with_reducible refine (has_row (H.out.below hb1) hl id _ HH.out).mono ?_)
  rintro e w2 ⟨rfl, hb2⟩
  have B2 : Below w.heap.size w w2 := hb1.trans (hb2.mono hb1.size)
  have H2 := Lib.hid ((H.out.below hb1).below hb2)
  clear hb1 hb2
  go_wp2_with fail
  go_at_call 22
  (with_reducible refine (without_row H2.out hl id).mono ?_)
  rintro e w3 ⟨A3, c3, rfl, own3, _, hb3⟩
  have B3 : Below w.heap.size w w3 := B2.trans (hb3.mono B2.size)
  have O3 := Lib.hid (own3.base B2.size)
  clear hb3 own3 B2
  go_wp2_with fail
  go_ret2
  exact ⟨A3, c3, rfl, O3.out, B3⟩

theorem next_bad {A : Option Addr} {n c : Nat} {l : List T} {w : World} (h : RowT w A n c l) (hl : l.length ≤ 1000) (hb : rightB l = false) :
    Calls Try.prog 11 #[.slice A n c] w fun e w' => e = .returned (.tuple #[.int .i64 0, .int .i64 1]) ∧ Below w.heap.size w w' := by
  have H := Lib.hid h
  have HB := Lib.hid hb
  clear h hb
  go_enter Try.func11, Try.ntmps11
  go_wp2_with fail
  go_at_call 13
  (with_reducible refine (right_any H.out hl _ HB.out).mono ?_)
  rintro e w1 ⟨rfl, hb1⟩
  go_wp2_with fail
  go_ret2
  exact ⟨rfl, hb1⟩
theorem next_none {A : Option Addr} {c : Nat} {w : World} (h : RowT w A 0 c []) :
    Calls Try.prog 11 #[.slice A 0 c] w fun e w' => e = .returned (.tuple #[.int .i64 0, .int .i64 4]) ∧ Below w.heap.size w w' := by
  have H := Lib.hid h
  clear h
  go_enter Try.func11, Try.ntmps11
  go_wp2_with fail
  go_at_call 13
  (with_reducible refine (right_any H.out (by simp) true rfl).mono ?_)
  rintro e w1 ⟨rfl, hb1⟩
  go_wp2_with fail
  go_ret2
  exact ⟨rfl, hb1⟩
theorem next_good {A : Option Addr} {n c : Nat} {l : List T} {x : T} {w : World} (h : RowT w A n c l) (hx : l[0]? = some x) (hl : l.length ≤ 1000) (hb : rightB l = true) :
    Calls Try.prog 11 #[.slice A n c] w fun e w' => e = .returned (.tuple #[.int .i64 x.due, .int .i64 0]) ∧ Below w.heap.size w w' := by
  have hn := h.len
  have hp : 0 < l.length := (List.getElem?_eq_some_iff.1 hx).1
  have hn0 : (0 : Int) < (n : Int) := by omega
  have hn1 : ((n : Int) == 0) = false := by simp; omega
  have hn2 : 0 < n := by omega
  have hn3 : ¬ n = 0 := by omega
  obtain ⟨b, o, rfl, hbw, x0, x1⟩ := SlT.at_ h.sl hx
  rw [Nat.zero_mul, Nat.add_zero] at x0 x1
  have H := Lib.hid h
  have HB := Lib.hid hb
  clear h hb hx hn
  go_enter Try.func11, Try.ntmps11
  go_wp2_with fail
  go_at_call 13
  (with_reducible refine (right_any H.out hl _ HB.out).mono ?_)
  rintro e w1 ⟨rfl, hb1⟩
  replace x1 := (hb1.cell (p := ⟨b, _, none⟩) hbw).trans x1
  clear x0
  go_wp2_with fail
  go_ret2
  exact ⟨rfl, hb1⟩

/-- Two rows, new, and a number are handed back. -/
def Ret2 (w : World) (l m : List T) (n : Int) (e : Ending) (w' : World) : Prop :=
  ∃ A c A' c', e = .returned (.tuple #[.slice A l.length c, .slice A' m.length c', .int .i64 n]) ∧ OwnT w' w.heap.size (.slice A l.length c) l ∧ OwnT w' w.heap.size (.slice A' m.length c') m ∧ Below w.heap.size w w'
theorem ret2_nil {w w' : World} {n : Int} (hb : Below w.heap.size w w') : Ret2 w [] [] n (.returned (.tuple #[.slice none 0 0, .slice none 0 0, .int .i64 n])) w' := ⟨none, 0, none, 0, rfl, Own.nil _ _ _ _, Own.nil _ _ _ _, hb⟩
set_option maxHeartbeats 1000000 in
theorem advance_bad {A : Option Addr} {n c : Nat} {l : List T} {w : World} (h : RowT w A n c l) (hl : l.length ≤ 1000) (t : Int) (hb : rightB l = false) :
    Calls Try.prog 10 #[.slice A n c, .int .i64 t] w (Ret2 w [] [] 1) := by
  have H := Lib.hid h
  have HB := Lib.hid hb
  clear h hb
  go_enter Try.func10, Try.ntmps10
  go_wp2_with fail
  go_at_call 13
  (with_reducible refine (right_any H.out hl _ HB.out).mono ?_)
  rintro e w1 ⟨rfl, hb1⟩
  go_wp2_with fail
  go_ret3
  exact ret2_nil hb1
set_option maxHeartbeats 1000000 in
theorem advance_late {A : Option Addr} {n c : Nat} {l : List T} {w : World} (h : RowT w A n c l) (hl : l.length ≤ 1000) (t : Int) (hb : rightB l = true) (ht : timeB t = false) :
    Calls Try.prog 10 #[.slice A n c, .int .i64 t] w (Ret2 w [] [] 1) := by
  have H := Lib.hid h
  have HB := Lib.hid hb
  have HT := Lib.hid ht
  clear h hb ht
  go_enter Try.func10, Try.ntmps10
  go_wp2_with fail
  go_at_call 13
  (with_reducible refine (right_any H.out hl _ HB.out).mono ?_)
  rintro e w1 ⟨rfl, hb1⟩
  go_wp2_with fail
  go_at_call 28
  (with_reducible refine (time_is t _ HT.out _).mono ?_)
  rintro e w1' ⟨rfl, rfl⟩
  go_wp2_with fail
  go_ret3
  exact ret2_nil hb1
theorem split_row {A : Option Addr} {n c : Nat} {l : List T} {w : World} (h : RowT w A n c l) (t : Int) (hg : Good l) (ht : timeB t = true) :
    Calls Try.prog 23 #[.slice A n c, .int .i64 t] w (RetS w l t) := by
  obtain ⟨rfl, h1, _, h3⟩ := h
  exact split_any A c l t w (by have := hg.len; omega) h1 h3 ht hg.times hg.sorted
set_option maxHeartbeats 1000000 in
theorem advance_good {A : Option Addr} {n c : Nat} {l : List T} {w : World} (h : RowT w A n c l) (t : Int) (hg : Good l) (ht : timeB t = true) :
    Calls Try.prog 10 #[.slice A n c, .int .i64 t] w (Ret2 w (gtT l t) (leT l t) 0) := by
  have hl : l.length ≤ 1000 := by have := hg.len; omega
  have H := Lib.hid h
  have HG := Lib.hid hg
  have HB := Lib.hid (right_of_good hg)
  have HT := Lib.hid ht
  clear h hg ht
  go_enter Try.func10, Try.ntmps10
  go_wp2_with fail
  go_at_call 13
  (with_reducible refine (right_any H.out hl _ HB.out).mono ?_)
  rintro e w1 ⟨rfl, hb1⟩
  go_wp2_with fail
  go_at_call 28
  (with_reducible refine (time_is t _ HT.out _).mono ?_)
  rintro e w1' ⟨rfl, rfl⟩
  go_wp2_with fail
  go_at_call 23
  (with_reducible refine (split_row (H.out.below hb1) t HG.out HT.out).mono ?_)
  rintro e w2 ⟨b, s, a, A1, c1, A2, c2, A3, c3, rfl, hE, o1, o2, o3, d12, d13, d23, hb2⟩
  have B2 : Below w.heap.size w w2 := hb1.trans (hb2.mono hb1.size)
  have hs1 := hb1.size
  have hS := split_le hE
  have hlen : b.length + s.length ≤ 1000 := by
    have := congrArg List.length hE.all
    rw [List.length_append, List.length_append] at this; omega
  have hn1 : Hid ((b.map T.cells).length + (s.map T.cells).length ≤ 1000000) := Lib.hid (by rw [flatT_length, flatT_length]; omega)
  have hsl := Lib.hid (own_row o2).sl
  have hA2 := Lib.hid (own_row o2).nil
  have hB2 : Hid (w1.heap.size ≤ w2.heap.size) := Lib.hid hb2.size
  replace o1 := Lib.hid o1
  replace o3 := Lib.hid o3
  replace d13 := Lib.hid d13
  replace hS := Lib.hid hS
  clear o2 hb1 hb2 hE d12 d23 hlen
  go_wp2_with (at_builtin; (refine wpList_append_sl rfl (.tmp 26) (.tmp 27) 22 rfl elT (by rfl) o1.out (by rfl) (flatT_length s).symm hsl.out (whole s) hA2.out hn1.out hB2.out ?_); intro v' w3 own3 grow3 hor3)
  have o3' : OwnT w3 w1.heap.size (.slice A3 a.length c3) a := o3.out.kept grow3 (by
    rcases d13.out with h1 | h1
    · rw [h1]; cases (Value.slice A3 a.length c3).ownBlock <;> simp
    · exact .inr (Ne.symm h1))
  have B3 : Below w.heap.size w w3 := B2.grown grow3 B2.size (fun k hk => Nat.le_trans hs1 (o1.out.lt k hk).1)
  obtain ⟨A', c', rfl, _⟩ := own_form (show OwnT w3 w1.heap.size v' (b ++ s) by rw [← List.map_append] at own3; exact own3)
  rw [← List.map_append] at own3
  replace own3 := Lib.hid own3
  replace o3' := Lib.hid o3'
  clear hor3 grow3
  go_ret3
  refine ⟨A3, c3, A', c', ?_, ?_, ?_, B3⟩
  · rw [hS.out.1, hS.out.2]; rfl
  · rw [hS.out.2]; exact o3'.out.base hs1
  · rw [hS.out.1]; exact own3.out.base hs1
end Go.Proofs.Ytdieoecpacplmaa.WheelP
