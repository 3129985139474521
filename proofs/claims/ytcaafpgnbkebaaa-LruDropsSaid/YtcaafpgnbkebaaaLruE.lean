/-
  Contracts of lru.Use, Drop, Trim, and of the statements' alive.
-/
import Derived.Test.YtcaafpgnbkebaaaLruD
namespace Go.Proofs.Ytcaafpgnbkebaaa.LruP
open Go.RowKit Go.Sort Go.Proofs.Ytcaafpgnbkebaaa.SliceP Go.Proofs.Ytcaafpgnbkebaaa.IntP
set_option linter.unusedVariables false
set_option maxRecDepth 100000

def useE (l : List Int) (x : Int) : Int := if rightI l && decide (0 ≤ x) then (if (without l x).length = 64 then 5 else 0) else 1
def useA (l : List Int) (x : Int) : List Int := if useE l x = 0 then useL l x else []
def dropE (l : List Int) (x : Int) : Int := if rightI l && decide (0 ≤ x) then (if hasI l x then 0 else 4) else 1
def dropA (l : List Int) (x : Int) : List Int := if dropE l x = 0 then without l x else []
def trimE (l : List Int) (m : Int) : Int := if rightI l && decide (0 ≤ m) then 0 else 1
def trimK (l : List Int) (m : Int) : List Int := if trimE l m = 0 then l.take (min m.toNat l.length) else []
def trimG (l : List Int) (m : Int) : List Int := if trimE l m = 0 then (l.drop (min m.toNat l.length)).reverse else []
theorem useE_bad {l : List Int} {x : Int} (h : rightI l = false) : useE l x = 1 ∧ useA l x = [] := by
  have e : useE l x = 1 := by unfold useE; rw [h]; rfl
  exact ⟨e, by unfold useA; rw [e]; rfl⟩
theorem useE_neg {l : List Int} {x : Int} (h : x < 0) : useE l x = 1 ∧ useA l x = [] := by
  have e : useE l x = 1 := by unfold useE; rw [decide_eq_false (by omega : ¬ 0 ≤ x), Bool.and_false]; rfl
  exact ⟨e, by unfold useA; rw [e]; rfl⟩
theorem useE_full {l : List Int} {x : Int} (h : rightI l = true) (hx : 0 ≤ x) (hf : (without l x).length = 64) : useE l x = 5 ∧ useA l x = [] := by
  have e : useE l x = 5 := by unfold useE; rw [h, decide_eq_true hx, Bool.and_self, if_pos rfl, if_pos hf]
  exact ⟨e, by unfold useA; rw [e]; rfl⟩
theorem useE_ok {l : List Int} {x : Int} (h : rightI l = true) (hx : 0 ≤ x) (hf : (without l x).length ≠ 64) : useE l x = 0 ∧ useA l x = useL l x := by
  have e : useE l x = 0 := by unfold useE; rw [h, decide_eq_true hx, Bool.and_self, if_pos rfl, if_neg hf]
  exact ⟨e, by unfold useA; rw [e]; rfl⟩
theorem dropE_bad {l : List Int} {x : Int} (h : rightI l = false) : dropE l x = 1 ∧ dropA l x = [] := by
  have e : dropE l x = 1 := by unfold dropE; rw [h]; rfl
  exact ⟨e, by unfold dropA; rw [e]; rfl⟩
theorem dropE_neg {l : List Int} {x : Int} (h : x < 0) : dropE l x = 1 ∧ dropA l x = [] := by
  have e : dropE l x = 1 := by unfold dropE; rw [decide_eq_false (by omega : ¬ 0 ≤ x), Bool.and_false]; rfl
  exact ⟨e, by unfold dropA; rw [e]; rfl⟩
theorem dropE_no {l : List Int} {x : Int} (h : rightI l = true) (hx : 0 ≤ x) (hf : hasI l x = false) : dropE l x = 4 ∧ dropA l x = [] := by
  have e : dropE l x = 4 := by unfold dropE; rw [h, decide_eq_true hx, Bool.and_self, if_pos rfl, hf]; rfl
  exact ⟨e, by unfold dropA; rw [e]; rfl⟩
theorem dropE_ok {l : List Int} {x : Int} (h : rightI l = true) (hx : 0 ≤ x) (hf : hasI l x = true) : dropE l x = 0 ∧ dropA l x = without l x := by
  have e : dropE l x = 0 := by unfold dropE; rw [h, decide_eq_true hx, Bool.and_self, if_pos rfl, hf]; rfl
  exact ⟨e, by unfold dropA; rw [e]; rfl⟩
theorem trimE_bad {l : List Int} {m : Int} (h : rightI l = false) : trimE l m = 1 ∧ trimK l m = [] ∧ trimG l m = [] := by
  have e : trimE l m = 1 := by unfold trimE; rw [h]; rfl
  exact ⟨e, by unfold trimK; rw [e]; rfl, by unfold trimG; rw [e]; rfl⟩
theorem trimE_neg {l : List Int} {m : Int} (h : m < 0) : trimE l m = 1 ∧ trimK l m = [] ∧ trimG l m = [] := by
  have e : trimE l m = 1 := by unfold trimE; rw [decide_eq_false (by omega : ¬ 0 ≤ m), Bool.and_false]; rfl
  exact ⟨e, by unfold trimK; rw [e]; rfl, by unfold trimG; rw [e]; rfl⟩
theorem trimE_ok {l : List Int} {m : Nat} (h : rightI l = true) : trimE l m = 0 ∧ trimK l m = l.take (min m l.length) ∧ trimG l m = (l.drop (min m l.length)).reverse := by
  have e : trimE l m = 0 := by unfold trimE; rw [h, decide_eq_true (by omega : 0 ≤ (m : Int)), Bool.and_self, if_pos rfl]
  exact ⟨e, by unfold trimK; rw [e]; rfl, by unfold trimG; rw [e]; rfl⟩

set_option maxHeartbeats 4000000 in
theorem use_any {A : Option Addr} {n c : Nat} {l : List Int} {w : World} (h : RowI w A n c l) (hl : l.length ≤ 1000) (x : Int) :
    Calls Try.prog 8 #[.slice A n c, .int .i64 x] w (Ret1 w (useA l x) (useE l x)) := by
  have H := Lib.hid h
  clear h
  cases hb : rightI l
  · obtain ⟨e1, e2⟩ := useE_bad (x := x) hb
    rw [e1, e2]
    replace hb := Lib.hid hb
    clear e1 e2
    go_enter Try.func8, Try.ntmps8
    go_wp2_with fail
    go_at_call 13
    (with_reducible refine (right_is H.out hl _ hb.out).mono ?_)
    rintro e w1 ⟨rfl, rfl⟩
    go_wp2_with fail
    go_ret2
    exact ret1_nil (Below.refl _ _)
  by_cases hx : x < 0
  · obtain ⟨e1, e2⟩ := useE_neg (l := l) hx
    rw [e1, e2]
    replace hb := Lib.hid hb
    clear e1 e2
    go_enter Try.func8, Try.ntmps8
    go_wp2_with fail
    go_at_call 13
    (with_reducible refine (right_is H.out hl _ hb.out).mono ?_)
    rintro e w1 ⟨rfl, rfl⟩
    go_wp2_with fail
    go_ret2
    exact ret1_nil (Below.refl _ _)
  have hx0 : 0 ≤ x := by omega
  by_cases hf : (without l x).length = 64
  · obtain ⟨e1, e2⟩ := useE_full hb hx0 hf
    rw [e1, e2]
    have hf' : (((without l x).length : Int) == 64) = true := by simp; omega
    replace hb := Lib.hid hb
    replace hf := Lib.hid hf
    replace hf' := Lib.hid hf'
    clear e1 e2
    go_enter Try.func8, Try.ntmps8
    go_wp2_with fail
    go_at_call 13
    (with_reducible refine (right_is H.out hl _ hb.out).mono ?_)
    rintro e w1 ⟨rfl, rfl⟩
    go_wp2_with fail
    go_at_call 20
    (with_reducible refine (without_any H.out x hl).mono ?_)
    rintro e w1 ⟨A1, c1, rfl, o1, hb1⟩
    replace hf' := hf'.out
    clear o1
    go_wp2_with fail
    go_ret2
    exact ret1_nil hb1
  · obtain ⟨e1, e2⟩ := useE_ok hb hx0 hf
    rw [e1, e2]
    have hf' : (((without l x).length : Int) == 64) = false := by simp; omega
    have hwl := without_length l x
    replace hb := Lib.hid hb
    replace hf := Lib.hid hf
    replace hf' := Lib.hid hf'
    clear e1 e2
    go_enter Try.func8, Try.ntmps8
    go_wp2_with fail
    go_at_call 13
    (with_reducible refine (right_is H.out hl _ hb.out).mono ?_)
    rintro e w1 ⟨rfl, rfl⟩
    go_wp2_with fail
    go_at_call 20
    (with_reducible refine (without_any H.out x hl).mono ?_)
    rintro e w1 ⟨A1, c1, rfl, o1, hb1⟩
    replace hf' := hf'.out
    have B1 : Below w.heap.size w (w1.alloc (.cells #[.int .i64 x] 3)) := hb1.alloc hb1.size _
    have O0 := Lib.hid (own_lit w1 #[.int .i64 x] [x] w.heap.size 1 hb1.size rfl rfl (by simp))
    have R1 := Lib.hid ((own_row o1).below ((Below.refl _ _).alloc (Nat.le_refl _) (.cells #[.int .i64 x] 3)))
    have hn1 : Hid ((cI [x]).length + (cI (without l x)).length ≤ 1000000) := Lib.hid (by rw [cI_length, cI_length]; simp only [List.length_cons, List.length_nil]; omega)
    have hB2 : Hid (w.heap.size ≤ (w1.alloc (.cells #[.int .i64 x] 3)).heap.size) := Lib.hid B1.size
    have hnn : Hid ((without l x).length = (cI (without l x)).length) := Lib.hid (cI_length _).symm
    clear o1
    go_wp2_with (at_builtin; (refine wpList_append_sl rfl (.tmp 21) (.tmp 22) 38 rfl elR (by rfl) O0.out (by rfl) hnn.out R1.out.sl (IntP.whole _) R1.out.nil hn1.out hB2.out ?_); intro v' w2 own2 grow2 _)
    have B2 : Below w.heap.size w w2 := B1.grown grow2 B1.size (fun k hk => (O0.out.lt k hk).1)
    rw [← cI_append] at own2
    go_ret2
    exact ret1 own2 B2
theorem use_is {A : Option Addr} {n c : Nat} {l : List Int} {w : World} (h : RowI w A n c l) (hl : l.length ≤ 1000) (x : Int) (a : List Int) (e : Int) (he : useE l x = e ∧ useA l x = a) :
    Calls Try.prog 8 #[.slice A n c, .int .i64 x] w (Ret1 w a e) := by
  obtain ⟨rfl, rfl⟩ := he; exact use_any h hl x

set_option maxHeartbeats 4000000 in
theorem drop_any {A : Option Addr} {n c : Nat} {l : List Int} {w : World} (h : RowI w A n c l) (hl : l.length ≤ 1000) (x : Int) :
    Calls Try.prog 10 #[.slice A n c, .int .i64 x] w (Ret1 w (dropA l x) (dropE l x)) := by
  have H := Lib.hid h
  clear h
  cases hb : rightI l
  · obtain ⟨e1, e2⟩ := dropE_bad (x := x) hb
    rw [e1, e2]
    replace hb := Lib.hid hb
    clear e1 e2
    go_enter Try.func10, Try.ntmps10
    go_wp2_with fail
    go_at_call 13
    (with_reducible refine (right_is H.out hl _ hb.out).mono ?_)
    rintro e w1 ⟨rfl, rfl⟩
    go_wp2_with fail
    go_ret2
    exact ret1_nil (Below.refl _ _)
  by_cases hx : x < 0
  · obtain ⟨e1, e2⟩ := dropE_neg (l := l) hx
    rw [e1, e2]
    replace hb := Lib.hid hb
    clear e1 e2
    go_enter Try.func10, Try.ntmps10
    go_wp2_with fail
    go_at_call 13
    (with_reducible refine (right_is H.out hl _ hb.out).mono ?_)
    rintro e w1 ⟨rfl, rfl⟩
    go_wp2_with fail
    go_ret2
    exact ret1_nil (Below.refl _ _)
  have hx0 : 0 ≤ x := by omega
  have hl6 : Hid (l.length ≤ 1000000) := Lib.hid (by omega)
  cases hf : hasI l x
  · obtain ⟨e1, e2⟩ := dropE_no hb hx0 hf
    rw [e1, e2]
    replace hb := Lib.hid hb
    replace hf := Lib.hid hf
    clear e1 e2
    go_enter Try.func10, Try.ntmps10
    go_wp2_with fail
    go_at_call 13
    (with_reducible refine (right_is H.out hl _ hb.out).mono ?_)
    rintro e w1 ⟨rfl, rfl⟩
    go_wp2_with fail
    go_at_call 22
    (with_reducible refine (has_is H.out x _ hf.out hl6.out).mono ?_)
    rintro e w1 ⟨rfl, rfl⟩
    go_wp2_with fail
    go_ret2
    exact ret1_nil (Below.refl _ _)
  · obtain ⟨e1, e2⟩ := dropE_ok hb hx0 hf
    rw [e1, e2]
    replace hb := Lib.hid hb
    replace hf := Lib.hid hf
    clear e1 e2
    go_enter Try.func10, Try.ntmps10
    go_wp2_with fail
    go_at_call 13
    (with_reducible refine (right_is H.out hl _ hb.out).mono ?_)
    rintro e w1 ⟨rfl, rfl⟩
    go_wp2_with fail
    go_at_call 22
    (with_reducible refine (has_is H.out x _ hf.out hl6.out).mono ?_)
    rintro e w1 ⟨rfl, rfl⟩
    go_wp2_with fail
    go_at_call 20
    (with_reducible refine (without_any H.out x hl).mono ?_)
    rintro e w1 ⟨A1, c1, rfl, o1, hb1⟩
    replace o1 := Lib.hid o1
    go_wp2_with fail
    go_ret2
    exact ret1 o1.out hb1
theorem drop_is {A : Option Addr} {n c : Nat} {l : List Int} {w : World} (h : RowI w A n c l) (hl : l.length ≤ 1000) (x : Int) (a : List Int) (e : Int) (he : dropE l x = e ∧ dropA l x = a) :
    Calls Try.prog 10 #[.slice A n c, .int .i64 x] w (Ret1 w a e) := by
  obtain ⟨rfl, rfl⟩ := he; exact drop_any h hl x

set_option maxHeartbeats 4000000 in
theorem trim_any {A : Option Addr} {n c : Nat} {l : List Int} {w : World} (h : RowI w A n c l) (hl : l.length ≤ 1000) (m : Int) (hm : m ≤ 9223372036854775807) :
    Calls Try.prog 11 #[.slice A n c, .int .i64 m] w (Ret2 w (trimK l m) (trimG l m) (trimE l m)) := by
  have H := Lib.hid h
  clear h
  cases hb : rightI l
  · obtain ⟨e1, e2, e3⟩ := trimE_bad (m := m) hb
    rw [e1, e2, e3]
    replace hb := Lib.hid hb
    clear e1 e2 e3
    go_enter Try.func11, Try.ntmps11
    go_wp2_with fail
    go_at_call 13
    (with_reducible refine (right_is H.out hl _ hb.out).mono ?_)
    rintro e w1 ⟨rfl, rfl⟩
    go_wp2_with fail
    go_ret3
    exact ret2_nil (Below.refl _ _)
  by_cases hx : m < 0
  · obtain ⟨e1, e2, e3⟩ := trimE_neg (l := l) hx
    rw [e1, e2, e3]
    replace hb := Lib.hid hb
    clear e1 e2 e3
    go_enter Try.func11, Try.ntmps11
    go_wp2_with fail
    go_at_call 13
    (with_reducible refine (right_is H.out hl _ hb.out).mono ?_)
    rintro e w1 ⟨rfl, rfl⟩
    go_wp2_with fail
    go_ret3
    exact ret2_nil (Below.refl _ _)
  obtain ⟨k, rfl⟩ : ∃ k : Nat, m = (k : Int) := ⟨m.toNat, by omega⟩
  have hx0 : (0 : Int) ≤ (k : Int) := by omega
  obtain ⟨e1, e2, e3⟩ := trimE_ok (m := k) hb
  rw [e1, e2, e3]
  have hS := split_any H.out hl k (by omega)
  obtain ⟨K, hK⟩ : ∃ K, l.take (min k l.length) = K := ⟨_, rfl⟩
  obtain ⟨G, hG⟩ : ∃ G, (l.drop (min k l.length)).reverse = G := ⟨_, rfl⟩
  rw [hK, hG] at hS ⊢
  replace hS := Lib.hid hS
  clear hK hG
  replace hb := Lib.hid hb
  clear e1 e2 e3
  go_enter Try.func11, Try.ntmps11
  go_wp2_with fail
  go_at_call 13
  (with_reducible refine (right_is H.out hl _ hb.out).mono ?_)
  rintro e w1 ⟨rfl, rfl⟩
  go_wp2_with fail
  go_at_call 23
  (with_reducible refine hS.out.mono ?_)
  rintro e w1 ⟨A1, c1, A2, c2, rfl, o1, o2, hb1⟩
  replace o1 := Lib.hid o1
  replace o2 := Lib.hid o2
  go_wp2_with fail
  go_ret3
  exact ⟨A1, c1, A2, c2, rfl, o1.out, o2.out, hb1⟩
theorem trim_is {A : Option Addr} {n c : Nat} {l : List Int} {w : World} (h : RowI w A n c l) (hl : l.length ≤ 1000) (m : Int) (hm : m ≤ 9223372036854775807) (k g : List Int) (e : Int) (he : trimE l m = e ∧ trimK l m = k ∧ trimG l m = g) :
    Calls Try.prog 11 #[.slice A n c, .int .i64 m] w (Ret2 w k g e) := by
  obtain ⟨rfl, rfl, rfl⟩ := he; exact trim_any h hl m hm

set_option maxHeartbeats 2000000 in
theorem alive_any (w : World) : Calls Try.prog 14 #[] w fun e w' => e = .returned (.bool true) ∧ Below w.heap.size w w' := by
  have R0 := Lib.hid (row_lit w #[.int .i64 3, .int .i64 1, .int .i64 2] [3, 1, 2] 3 rfl rfl (by simp))
  have hE : Hid (useE [3, 1, 2] 2 = 0 ∧ useA [3, 1, 2] 2 = [2, 3, 1]) := Lib.hid (by decide)
  go_enter Try.func14, Try.ntmps14
  go_wp2_with fail
  go_at_call 8
  (with_reducible refine (use_is R0.out (by simp) 2 _ _ hE.out).mono ?_)
  rintro e w1 ⟨A1, c1, rfl, o1, hb1⟩
  have B1 : Below w.heap.size w w1 := bt ((Below.refl _ _).alloc (Nat.le_refl _) _) hb1
  have L1 := Lib.hid (row_lit w1 #[.int .i64 2, .int .i64 3, .int .i64 1] [2, 3, 1] 3 rfl rfl (by simp))
  have R1 := Lib.hid (show RowI (w1.alloc (.cells #[.int .i64 2, .int .i64 3, .int .i64 1] 3)) A1 3 c1 [2, 3, 1] from (own_row o1).below ((Below.refl _ _).alloc (Nat.le_refl _) (.cells #[.int .i64 2, .int .i64 3, .int .i64 1] 3)))
  clear hb1 o1 R0
  go_wp2_with fail
  go_at_call 15
  (with_reducible refine (same_true R1.out L1.out rfl (by simp)).mono ?_)
  rintro e w2 ⟨rfl, hb2⟩
  have B2 : Below w.heap.size w w2 := (B1.alloc B1.size _).trans (hb2.mono (by have := B1.size; simp; omega))
  clear hb2 R1 L1 B1
  go_wp2_with fail
  go_ret
  exact ⟨rfl, B2⟩
end Go.Proofs.Ytcaafpgnbkebaaa.LruP
