/-
  WheelTells whole.
-/
import Derived.Test.YtdieoecpacplmaaWheelX
namespace Go.Proofs.Ytdieoecpacplmaa.WheelP
open Go.RowKit Go.Sort Go.Proofs.Ytdieoecpacplmaa.SliceP Go.Proofs.Ytdieoecpacplmaa.MacP
set_option linter.unusedVariables false
set_option maxRecDepth 100000

def ArmO (l : List T) (i a : Int) (L : List T) (e : Int) : Prop :=
  (okB i a = false ∧ L = [] ∧ e = 1) ∨ (okB i a = true ∧ (without l i).length = 64 ∧ L = [] ∧ e = 5) ∨ (okB i a = true ∧ (without l i).length ≠ 64 ∧ L = insT ⟨i, a⟩ (without l i) ∧ e = 0)
theorem armO (l : List T) (i a : Int) : ∃ L e, ArmO l i a L e := by
  cases h : okB i a
  · exact ⟨[], 1, .inl ⟨h, rfl, rfl⟩⟩
  · by_cases h2 : (without l i).length = 64
    · exact ⟨[], 5, .inr (.inl ⟨h, h2, rfl, rfl⟩)⟩
    · exact ⟨_, 0, .inr (.inr ⟨h, h2, rfl, rfl⟩)⟩
theorem arm_o {A : Option Addr} {n c : Nat} {l L : List T} {w : World} {i a e : Int} (h : RowT w A n c l) (hg : Good l) (ho : ArmO l i a L e) :
    Calls Try.prog 8 #[.slice A n c, tv i a] w (Ret1 w L e) := by
  have hl : l.length ≤ 1000 := by have := hg.len; omega
  rcases ho with ⟨h1, rfl, rfl⟩ | ⟨h1, h2, rfl, rfl⟩ | ⟨h1, h2, rfl, rfl⟩
  · exact arm_never h hl i a (right_of_good hg) h1
  · exact arm_full h hl i a (right_of_good hg) h1 h2
  · exact arm_good h i a hg h1 h2
def CanO (l : List T) (id : Int) (L : List T) (e : Int) : Prop :=
  (id < 0 ∧ L = [] ∧ e = 1) ∨ (0 ≤ id ∧ hasI l id = false ∧ L = [] ∧ e = 4) ∨ (0 ≤ id ∧ hasI l id = true ∧ L = without l id ∧ e = 0)
theorem canO (l : List T) (id : Int) : ∃ L e, CanO l id L e := by
  by_cases h : id < 0
  · exact ⟨[], 1, .inl ⟨h, rfl, rfl⟩⟩
  · cases h2 : hasI l id
    · exact ⟨[], 4, .inr (.inl ⟨by omega, h2, rfl, rfl⟩)⟩
    · exact ⟨_, 0, .inr (.inr ⟨by omega, h2, rfl, rfl⟩)⟩
theorem can_o {A : Option Addr} {n c : Nat} {l L : List T} {w : World} {id e : Int} (h : RowT w A n c l) (hg : Good l) (ho : CanO l id L e) :
    Calls Try.prog 9 #[.slice A n c, .int .i64 id] w (Ret1 w L e) := by
  have hl : l.length ≤ 1000 := by have := hg.len; omega
  rcases ho with ⟨h1, rfl, rfl⟩ | ⟨h1, h2, rfl, rfl⟩ | ⟨h1, h2, rfl, rfl⟩
  · exact cancel_neg h hl id (right_of_good hg) h1
  · exact cancel_none h hl id (right_of_good hg) h1 h2
  · exact cancel_good h hl id (right_of_good hg) h1 h2
def AdvO (l : List T) (t : Int) (L M : List T) (e : Int) : Prop := (timeB t = false ∧ L = [] ∧ M = [] ∧ e = 1) ∨ (timeB t = true ∧ L = gtT l t ∧ M = leT l t ∧ e = 0)
theorem advO (l : List T) (t : Int) : ∃ L M e, AdvO l t L M e := by
  cases h : timeB t
  · exact ⟨[], [], 1, .inl ⟨h, rfl, rfl, rfl⟩⟩
  · exact ⟨_, _, 0, .inr ⟨h, rfl, rfl, rfl⟩⟩
theorem adv_o {A : Option Addr} {n c : Nat} {l L M : List T} {w : World} {t e : Int} (h : RowT w A n c l) (hg : Good l) (ho : AdvO l t L M e) :
    Calls Try.prog 10 #[.slice A n c, .int .i64 t] w (Ret2 w L M e) := by
  have hl : l.length ≤ 1000 := by have := hg.len; omega
  rcases ho with ⟨h1, rfl, rfl, rfl⟩ | ⟨h1, rfl, rfl, rfl⟩
  · exact advance_late h hl t (right_of_good hg) h1
  · exact advance_good h t hg h1
def NxtO (l : List T) (n e : Int) : Prop := (l = [] ∧ n = 0 ∧ e = 4) ∨ (∃ x, l[0]? = some x ∧ n = x.due ∧ e = 0)
theorem nxtO (l : List T) : ∃ n e, NxtO l n e := by
  cases l with
  | nil => exact ⟨0, 4, .inl ⟨rfl, rfl, rfl⟩⟩
  | cons x r => exact ⟨x.due, 0, .inr ⟨x, rfl, rfl, rfl⟩⟩
theorem nxt_o {A : Option Addr} {n c : Nat} {l : List T} {w : World} {m e : Int} (h : RowT w A n c l) (hg : Good l) (ho : NxtO l m e) :
    Calls Try.prog 11 #[.slice A n c] w fun e' w' => e' = .returned (.tuple #[.int .i64 m, .int .i64 e]) ∧ Below w.heap.size w w' := by
  have hl : l.length ≤ 1000 := by have := hg.len; omega
  rcases ho with ⟨rfl, rfl, rfl⟩ | ⟨x, hx, rfl, rfl⟩
  · have hn := h.len
    obtain rfl : n = 0 := by simpa using hn
    exact next_none h
  · exact next_good h hx hl (right_of_good hg)

theorem place_row {A : Option Addr} {n c : Nat} {l : List T} {w : World} (h : RowT w A n c l) (hl : l.length ≤ 1000) (id p : Int) (hp : placeI l id = p) :
    Calls Try.prog 18 #[.slice A n c, .int .i64 id] w fun e w' => e = .returned (.int .i64 p) ∧ Below w.heap.size w w' := place_is A c n l id p w h.len (by omega) h.sl hp
theorem add_size (a : Addr) (k : Nat) (h : a = ⟨a.block, a.off, none⟩) : a.add k = ⟨a.block, a.off + k, none⟩ := by
  rw [h]; unfold Addr.add
  by_cases hk : k = 0
  · rw [if_pos hk, hk]; rfl
  · rw [if_neg hk]
theorem row_from {w : World} {A : Option Addr} {n c k : Nat} {l : List T} (h : RowT w A n c l) (hk : k ≤ n) :
    ∃ A', (∀ w, (Instr.slice 22 (.slice A n c) (some (.int .i64 (k : Int))) none none).run Try.prog w = .ok (.slice A' (n - k) (c - k)) w) ∧ RowT w A' (n - k) (c - k) (l.drop k) := by
  have ht : Try.prog.underlying 22 = some (.slice (Try.prog.elem 22)) := by kernel_rfl
  have hz : ∀ w, (Go.sizeOf (Try.prog.elem 22)).run Try.prog w = .ok 2 w := fun w => by kernel_rfl
  have hkn' : (k : Int) ≤ (n : Int) := by omega
  refine ⟨if c = k then A else A.map (·.add (k * 2)), fun w => ?_, ?_⟩
  · have hr := run_slice_l (P := Try.prog) w 22 A n c ht .i64 (k : Int) (by omega) hkn'
    rw [hr, hz]
    simp only [Result.andThen_ok, sliced, Int.toNat_natCast]
  · refine ⟨by rw [List.length_drop, ← h.len], ?_, by have := h.cap; omega, fun hn => ?_⟩
    · intro hne
      have hkn : k < n := by
        rw [h.len]
        rcases Nat.lt_or_ge k l.length with hh | hh
        · exact hh
        · rw [List.drop_eq_nil_of_le hh] at hne; exact absurd rfl hne
      have hcap := h.cap
      rw [if_neg (by omega)]
      obtain ⟨b, o, rfl, hb, _⟩ := h.sl (by
        intro h0
        rw [h.len] at hkn
        have h1 : l = [] := by simpa using h0
        rw [h1] at hkn
        exact absurd hkn (Nat.not_lt_zero _))
      have hd := Sl.drop h.sl k
      rw [← List.map_drop] at hd
      have e : (some (⟨b, o, none⟩ : Addr)).map (·.add (k * 2)) = some ⟨b, o + k * 2, none⟩ := by rw [Option.map_some, add_size _ _ rfl]
      rw [e]
      exact hd hne
    · split at hn
      · omega
      · cases A with
        | none => have := h.nil rfl; omega
        | some a => cases hn
theorem row_to {w : World} {A : Option Addr} {n c k : Nat} {l : List T} (h : RowT w A n c l) (hk : k ≤ n) :
    (∀ w, (Instr.slice 22 (.slice A n c) none (some (.int .i64 (k : Int))) none).run Try.prog w = .ok (.slice A k c) w) ∧ RowT w A k c (l.take k) := by
  have ht : Try.prog.underlying 22 = some (.slice (Try.prog.elem 22)) := by kernel_rfl
  have hz : ∀ w, (Go.sizeOf (Try.prog.elem 22)).run Try.prog w = .ok 2 w := fun w => by kernel_rfl
  have hkc : (k : Int) ≤ (c : Int) := by have := h.cap; omega
  refine ⟨fun w => ?_, ?_⟩
  · have hr := run_slice_h (P := Try.prog) w 22 A n c ht .i64 (k : Int) (by omega) hkc
    rw [hr, hz]
    have e : (if c = 0 then A else A.map (·.add (0 * 2))) = A := by
      split
      · rfl
      · cases A with
        | none => rfl
        | some a => simp [Addr.add]
    simp only [Result.andThen_ok, sliced, Int.toNat_natCast, Nat.sub_zero, e]
  · exact ⟨by rw [List.length_take, ← h.len]; omega, SlT.take h.sl k, by have := h.cap; omega, h.nil⟩
theorem may_cases {t : Int} (h : timeB t = false) : t < 0 ∨ 1099511627776 < t := by
  unfold timeB at h
  rw [Bool.and_eq_false_iff, decide_eq_false_iff_not, decide_eq_false_iff_not] at h
  omega
theorem may_true {t : Int} (h : timeB t = true) : 0 ≤ t ∧ t ≤ 1099511627776 := by
  unfold timeB at h
  rw [Bool.and_eq_true, decide_eq_true_eq, decide_eq_true_eq] at h
  exact h

set_option maxHeartbeats 32000000 in
theorem wheel_tells (v : Value) (i a id now : Int) {w : World} (h : InT w v) (_h0 : (Lit.int .i64 i).wf = true) (_h1 : (Lit.int .i64 a).wf = true) (_h2 : (Lit.int .i64 id).wf = true) (_h3 : (Lit.int .i64 now).wf = true) :
    Calls Try.prog 3 #[v, tv i a, .int .i64 id, .int .i64 now] w (True1 w) := by
  have H := Lib.hid h
  clear h
  go_enter Try.func3, Try.ntmps3
  go_wp2_with fail
  go_at_call 7
  (with_reducible refine (few_box H.out _).mono ?_)
  rintro e w' ⟨A, n, c, l, rfl, hR, hl, rfl⟩
  have hl1000 : l.length ≤ 1000 := by omega
  have hlen := hR.len
  have B0 : Below w.heap.size w (w.alloc (tObj i a)) := (Below.refl _ _).alloc (Nat.le_refl _) _
  have RL := Lib.hid (hR.below B0)
  have x0 : (w.alloc (tObj i a)).cell? ⟨w.heap.size, 0, none⟩ = some (.int .i64 i) := by go_simp
  have x1 : (w.alloc (tObj i a)).cell? ⟨w.heap.size, 1, none⟩ = some (.int .i64 a) := by go_simp
  have z0 : w.heap.size < (w.alloc (tObj i a)).heap.size := by simp
  have fin : ∀ w', Below (w.alloc (tObj i a)).heap.size (w.alloc (tObj i a)) w' → Below w.heap.size w w' := fun w' hb => B0.trans (hb.mono B0.size)
  clear H hR B0 _h0 _h1 _h2 _h3
  generalize w.alloc (tObj i a) = W at *
  obtain ⟨nb, hnb⟩ : ∃ nb, w.heap.size = nb := ⟨_, rfl⟩
  rw [hnb] at x0 x1 z0 ⊢
  replace hnb := Lib.hid hnb
  replace fin := Lib.hid fin
  cases hr : rightB l
  case false =>
    have hr' := Lib.hid hr
    clear hr
    replace hlen := Lib.hid hlen
    go_wp2_with fail
    go_at_call 8
    (with_reducible refine (arm_bad RL.out hl1000 i a hr'.out).mono ?_)
    rintro e w1 ⟨A1, c1, rfl, o1, hb1⟩
    have L_w1 := Lib.hid (RL.out.below hb1)
    have x0_w1 := (hb1.cell (p := ⟨nb, _, none⟩) z0).trans x0
    have x1_w1 := (hb1.cell (p := ⟨nb, _, none⟩) z0).trans x1
    have znb_w1 : nb < w1.heap.size := Nat.lt_of_lt_of_le z0 hb1.size
    clear RL x0 x1 z0
    go_wp2_with fail
    go_at_call 9
    (with_reducible refine (cancel_bad L_w1.out hl1000 id hr'.out).mono ?_)
    rintro e w2 ⟨A2, c2, rfl, o2, hb2⟩
    have L_w2 := Lib.hid (L_w1.out.below hb2)
    have x0_w2 := (hb2.cell (p := ⟨nb, _, none⟩) znb_w1).trans x0_w1
    have x1_w2 := (hb2.cell (p := ⟨nb, _, none⟩) znb_w1).trans x1_w1
    have znb_w2 : nb < w2.heap.size := Nat.lt_of_lt_of_le znb_w1 hb2.size
    have B_w2 := bt hb1 hb2
    clear L_w1 x0_w1 x1_w1 znb_w1 hb1 hb2
    go_wp2_with fail
    go_at_call 10
    (with_reducible refine (advance_bad L_w2.out hl1000 now hr'.out).mono ?_)
    rintro e w3 ⟨A3, c3, A4, c4, rfl, o3, o4, hb3⟩
    have L_w3 := Lib.hid (L_w2.out.below hb3)
    have x0_w3 := (hb3.cell (p := ⟨nb, _, none⟩) znb_w2).trans x0_w2
    have x1_w3 := (hb3.cell (p := ⟨nb, _, none⟩) znb_w2).trans x1_w2
    have znb_w3 : nb < w3.heap.size := Nat.lt_of_lt_of_le znb_w2 hb3.size
    have B_w3 := bt B_w2 hb3
    clear L_w2 x0_w2 x1_w2 znb_w2 B_w2 hb3
    go_wp2_with fail
    go_at_call 11
    (with_reducible refine (next_bad L_w3.out hl1000 hr'.out).mono ?_)
    rintro e w4 ⟨rfl, hb4⟩
    have L_w4 := Lib.hid (L_w3.out.below hb4)
    have x0_w4 := (hb4.cell (p := ⟨nb, _, none⟩) znb_w3).trans x0_w3
    have x1_w4 := (hb4.cell (p := ⟨nb, _, none⟩) znb_w3).trans x1_w3
    have znb_w4 : nb < w4.heap.size := Nat.lt_of_lt_of_le znb_w3 hb4.size
    have B_w4 := bt B_w3 hb4
    clear L_w3 x0_w3 x1_w3 znb_w3 B_w3 hb4
    have hrr := @ref_right_any A n c l w4
    rw [hr'.out] at hrr
    go_wp2_with fail
    go_at_call 12
    (with_reducible refine (hrr L_w4.out hl1000).mono ?_)
    rintro e w5 ⟨rfl, hb5⟩
    have L_w5 := Lib.hid (L_w4.out.below hb5)
    have x0_w5 := (hb5.cell (p := ⟨nb, _, none⟩) znb_w4).trans x0_w4
    have x1_w5 := (hb5.cell (p := ⟨nb, _, none⟩) znb_w4).trans x1_w4
    have znb_w5 : nb < w5.heap.size := Nat.lt_of_lt_of_le znb_w4 hb5.size
    have B_w5 := bt B_w4 hb5
    clear L_w4 x0_w4 x1_w4 znb_w4 B_w4 hb5
    go_wp2_with fail
    go_at_call 13
    (with_reducible refine (right_any L_w5.out hl1000 _ hr'.out).mono ?_)
    rintro e w6 ⟨rfl, hb6⟩
    have L_w6 := Lib.hid (L_w5.out.below hb6)
    have x0_w6 := (hb6.cell (p := ⟨nb, _, none⟩) znb_w5).trans x0_w5
    have x1_w6 := (hb6.cell (p := ⟨nb, _, none⟩) znb_w5).trans x1_w5
    have znb_w6 : nb < w6.heap.size := Nat.lt_of_lt_of_le znb_w5 hb6.size
    have B_w6 := bt B_w5 hb6
    clear L_w5 x0_w5 x1_w5 znb_w5 B_w5 hb6
    go_wp2_with fail
    go_at_call 14
    (with_reducible refine (alive_any _).mono ?_)
    rintro e w7 ⟨rfl, hb7⟩
    have L_w7 := Lib.hid (L_w6.out.below hb7)
    have x0_w7 := (hb7.cell (p := ⟨nb, _, none⟩) znb_w6).trans x0_w6
    have x1_w7 := (hb7.cell (p := ⟨nb, _, none⟩) znb_w6).trans x1_w6
    have znb_w7 : nb < w7.heap.size := Nat.lt_of_lt_of_le znb_w6 hb7.size
    have B_w7 := bt B_w6 hb7
    clear L_w6 x0_w6 x1_w6 znb_w6 B_w6 hb7
    go_wp2_with fail
    go_ret
    exact ⟨rfl, fin.out _ B_w7⟩
  case true =>
    have hg := Lib.hid (good_of_right hr)
    have hr' := Lib.hid hr
    clear hr
    obtain ⟨La, ea, hA⟩ := armO l i a
    obtain ⟨Lb, eb, hB⟩ := canO l id
    obtain ⟨Lc, Ld, ec, hC⟩ := advO l now
    obtain ⟨nx, en, hN⟩ := nxtO l
    obtain ⟨Lw, hLw⟩ : ∃ Lw, insT ⟨i, a⟩ (without l i) = Lw := ⟨_, rfl⟩
    obtain ⟨Lo, hLo⟩ : ∃ Lo, without l id = Lo := ⟨_, rfl⟩
    have hwl : (without l i).length ≤ 64 := Nat.le_trans (without_sub l i).length_le hg.out.len
    have hwn : Lw.length = (without l i).length + 1 := by rw [← hLw]; exact insT_length _ _
    have hw1000 : Lw.length ≤ 1000 := by omega
    have ho1000 : Lo.length ≤ 1000 := by rw [← hLo]; have := (without_sub l id).length_le; omega
    have hlec := le_gt_len (t := now) hg.out.sorted
    replace hA := Lib.hid hA
    replace hB := Lib.hid hB
    replace hC := Lib.hid hC
    replace hN := Lib.hid hN
    replace hLw := Lib.hid hLw
    replace hLo := Lib.hid hLo
    replace hwl := Lib.hid hwl
    replace hwn := Lib.hid hwn
    replace hlen := Lib.hid hlen
    replace hlec := Lib.hid hlec
    go_wp2_with fail
    go_at_call 8
    (with_reducible refine (arm_o RL.out hg.out hA.out).mono ?_)
    rintro e w1 ⟨A1, c1, rfl, o1, hb1⟩
    have L_w1 := Lib.hid (RL.out.below hb1)
    have a_w1 := Lib.hid (own_row o1)
    have x0_w1 := (hb1.cell (p := ⟨nb, _, none⟩) z0).trans x0
    have x1_w1 := (hb1.cell (p := ⟨nb, _, none⟩) z0).trans x1
    have znb_w1 : nb < w1.heap.size := Nat.lt_of_lt_of_le z0 hb1.size
    clear RL x0 x1 z0
    clear o1
    go_wp2_with fail
    go_at_call 9
    (with_reducible refine (can_o L_w1.out hg.out hB.out).mono ?_)
    rintro e w2 ⟨A2, c2, rfl, o2, hb2⟩
    have L_w2 := Lib.hid (L_w1.out.below hb2)
    have a_w2 := Lib.hid (a_w1.out.below hb2)
    have b_w2 := Lib.hid (own_row o2)
    have x0_w2 := (hb2.cell (p := ⟨nb, _, none⟩) znb_w1).trans x0_w1
    have x1_w2 := (hb2.cell (p := ⟨nb, _, none⟩) znb_w1).trans x1_w1
    have znb_w2 : nb < w2.heap.size := Nat.lt_of_lt_of_le znb_w1 hb2.size
    have B_w2 := bt hb1 hb2
    clear L_w1 a_w1 x0_w1 x1_w1 znb_w1 hb1 hb2
    clear o2
    go_wp2_with fail
    go_at_call 10
    (with_reducible refine (adv_o L_w2.out hg.out hC.out).mono ?_)
    rintro e w3 ⟨A3, c3, A4, c4, rfl, o3, o4, hb3⟩
    have L_w3 := Lib.hid (L_w2.out.below hb3)
    have a_w3 := Lib.hid (a_w2.out.below hb3)
    have b_w3 := Lib.hid (b_w2.out.below hb3)
    have c_w3 := Lib.hid (own_row o3)
    have d_w3 := Lib.hid (own_row o4)
    have x0_w3 := (hb3.cell (p := ⟨nb, _, none⟩) znb_w2).trans x0_w2
    have x1_w3 := (hb3.cell (p := ⟨nb, _, none⟩) znb_w2).trans x1_w2
    have znb_w3 : nb < w3.heap.size := Nat.lt_of_lt_of_le znb_w2 hb3.size
    have B_w3 := bt B_w2 hb3
    clear L_w2 a_w2 b_w2 x0_w2 x1_w2 znb_w2 B_w2 hb3
    clear o3 o4
    go_wp2_with fail
    go_at_call 11
    (with_reducible refine (nxt_o L_w3.out hg.out hN.out).mono ?_)
    rintro e w4 ⟨rfl, hb4⟩
    have L_w4 := Lib.hid (L_w3.out.below hb4)
    have a_w4 := Lib.hid (a_w3.out.below hb4)
    have b_w4 := Lib.hid (b_w3.out.below hb4)
    have c_w4 := Lib.hid (c_w3.out.below hb4)
    have d_w4 := Lib.hid (d_w3.out.below hb4)
    have x0_w4 := (hb4.cell (p := ⟨nb, _, none⟩) znb_w3).trans x0_w3
    have x1_w4 := (hb4.cell (p := ⟨nb, _, none⟩) znb_w3).trans x1_w3
    have znb_w4 : nb < w4.heap.size := Nat.lt_of_lt_of_le znb_w3 hb4.size
    have B_w4 := bt B_w3 hb4
    clear L_w3 a_w3 b_w3 c_w3 d_w3 x0_w3 x1_w3 znb_w3 B_w3 hb4
    have hrr := @ref_right_any A n c l w4
    rw [hr'.out] at hrr
    go_wp2_with fail
    go_at_call 12
    (with_reducible refine (hrr L_w4.out hl1000).mono ?_)
    rintro e w5 ⟨rfl, hb5⟩
    have L_w5 := Lib.hid (L_w4.out.below hb5)
    have a_w5 := Lib.hid (a_w4.out.below hb5)
    have b_w5 := Lib.hid (b_w4.out.below hb5)
    have c_w5 := Lib.hid (c_w4.out.below hb5)
    have d_w5 := Lib.hid (d_w4.out.below hb5)
    have x0_w5 := (hb5.cell (p := ⟨nb, _, none⟩) znb_w4).trans x0_w4
    have x1_w5 := (hb5.cell (p := ⟨nb, _, none⟩) znb_w4).trans x1_w4
    have znb_w5 : nb < w5.heap.size := Nat.lt_of_lt_of_le znb_w4 hb5.size
    have B_w5 := bt B_w4 hb5
    clear L_w4 a_w4 b_w4 c_w4 d_w4 x0_w4 x1_w4 znb_w4 B_w4 hb5
    go_wp2_with fail
    go_at_call 13
    (with_reducible refine (right_any L_w5.out hl1000 _ hr'.out).mono ?_)
    rintro e w6 ⟨rfl, hb6⟩
    have L_w6 := Lib.hid (L_w5.out.below hb6)
    have a_w6 := Lib.hid (a_w5.out.below hb6)
    have b_w6 := Lib.hid (b_w5.out.below hb6)
    have c_w6 := Lib.hid (c_w5.out.below hb6)
    have d_w6 := Lib.hid (d_w5.out.below hb6)
    have x0_w6 := (hb6.cell (p := ⟨nb, _, none⟩) znb_w5).trans x0_w5
    have x1_w6 := (hb6.cell (p := ⟨nb, _, none⟩) znb_w5).trans x1_w5
    have znb_w6 : nb < w6.heap.size := Nat.lt_of_lt_of_le znb_w5 hb6.size
    have B_w6 := bt B_w5 hb6
    clear L_w5 a_w5 b_w5 c_w5 d_w5 x0_w5 x1_w5 znb_w5 B_w5 hb6
    go_wp2_with fail
    go_at_call 14
    (with_reducible refine (alive_any _).mono ?_)
    rintro e w7 ⟨rfl, hb7⟩
    have L_w7 := Lib.hid (L_w6.out.below hb7)
    have a_w7 := Lib.hid (a_w6.out.below hb7)
    have b_w7 := Lib.hid (b_w6.out.below hb7)
    have c_w7 := Lib.hid (c_w6.out.below hb7)
    have d_w7 := Lib.hid (d_w6.out.below hb7)
    have x0_w7 := (hb7.cell (p := ⟨nb, _, none⟩) znb_w6).trans x0_w6
    have x1_w7 := (hb7.cell (p := ⟨nb, _, none⟩) znb_w6).trans x1_w6
    have znb_w7 : nb < w7.heap.size := Nat.lt_of_lt_of_le znb_w6 hb7.size
    have B_w7 := bt B_w6 hb7
    clear L_w6 a_w6 b_w6 c_w6 d_w6 x0_w6 x1_w6 znb_w6 B_w6 hb7
    go_wp2_with fail
    go_at_call 15
    (with_reducible refine (ref_arm_any L_w7.out hl1000 i a).mono ?_)
    rw [hLw.out]
    rintro e w8 ⟨A5, c5, rfl, o5, _, hb8⟩
    have L_w8 := Lib.hid (L_w7.out.below hb8)
    have a_w8 := Lib.hid (a_w7.out.below hb8)
    have b_w8 := Lib.hid (b_w7.out.below hb8)
    have c_w8 := Lib.hid (c_w7.out.below hb8)
    have d_w8 := Lib.hid (d_w7.out.below hb8)
    have w_w8 := Lib.hid (own_row o5)
    have x0_w8 := (hb8.cell (p := ⟨nb, _, none⟩) znb_w7).trans x0_w7
    have x1_w8 := (hb8.cell (p := ⟨nb, _, none⟩) znb_w7).trans x1_w7
    have znb_w8 : nb < w8.heap.size := Nat.lt_of_lt_of_le znb_w7 hb8.size
    have B_w8 := bt B_w7 hb8
    clear L_w7 a_w7 b_w7 c_w7 d_w7 x0_w7 x1_w7 znb_w7 B_w7 hb8
    clear o5
    rcases hA.out with ⟨ha1, rfl, rfl⟩ | ⟨ha1, ha2, rfl, rfl⟩ | ⟨ha1, ha2, hLa, rfl⟩
    · clear hA
      replace ha1 := Lib.hid ha1
      go_wp2_with fail
      go_at_call 16
      (with_reducible refine (may_is i a _ ha1.out _).mono ?_)
      rintro e w9 ⟨rfl, hb9⟩
      have L_w9 := Lib.hid (L_w8.out.below hb9)
      have a_w9 := Lib.hid (a_w8.out.below hb9)
      have b_w9 := Lib.hid (b_w8.out.below hb9)
      have c_w9 := Lib.hid (c_w8.out.below hb9)
      have d_w9 := Lib.hid (d_w8.out.below hb9)
      have w_w9 := Lib.hid (w_w8.out.below hb9)
      have x0_w9 := (hb9.cell (p := ⟨nb, _, none⟩) znb_w8).trans x0_w8
      have x1_w9 := (hb9.cell (p := ⟨nb, _, none⟩) znb_w8).trans x1_w8
      have znb_w9 : nb < w9.heap.size := Nat.lt_of_lt_of_le znb_w8 hb9.size
      have B_w9 := bt B_w8 hb9
      clear L_w8 a_w8 b_w8 c_w8 d_w8 w_w8 x0_w8 x1_w8 znb_w8 B_w8 hb9
      clear x0_w9
      clear x1_w9
      clear a_w9
      clear w_w9
      clear znb_w9
      rcases hB.out with ⟨hb1, rfl, rfl⟩ | ⟨hb1, hb2, rfl, rfl⟩ | ⟨hb1, hb2, hLb, rfl⟩
      · clear hB
        rcases hN.out with ⟨hn1, rfl, rfl⟩ | ⟨x, hx, rfl, rfl⟩
        · have hn0 : ((n : Int) == 0) = true := by have := hlen.out; rw [hn1] at this; simpa using this
          clear hN
          replace hn1 := Lib.hid hn1
          rcases hC.out with ⟨hc1, rfl, rfl, rfl⟩ | ⟨hc1, hLc, hLd, rfl⟩

          · rcases may_cases hc1 with hc2 | hc2
            all_goals
              clear hc1 hC
              go_wp2_with fail
              go_ret
              exact ⟨rfl, fin.out _ B_w9⟩
          · obtain ⟨hc2, hc3⟩ := may_true hc1
            replace hc1 := Lib.hid hc1
            replace hLc := Lib.hid hLc
            replace hLd := Lib.hid hLd
            clear hC
            go_wp2_with fail
            go_at_call 20
            (with_reducible refine (due_any L_w9.out hl1000 now).mono ?_)
            rintro e w10 ⟨rfl, hb10⟩
            have L_w10 := Lib.hid (L_w9.out.below hb10)
            have b_w10 := Lib.hid (b_w9.out.below hb10)
            have c_w10 := Lib.hid (c_w9.out.below hb10)
            have d_w10 := Lib.hid (d_w9.out.below hb10)
            have B_w10 := bt B_w9 hb10
            clear L_w9 b_w9 c_w9 d_w9 B_w9 hb10
            obtain ⟨kd, hkd⟩ : ∃ kd, (leT l now).length = kd := ⟨_, rfl⟩
            have hkn : kd ≤ n := by have := hlec.out; have := hlen.out; omega
            rw [hkd]
            replace hkd := Lib.hid hkd
            obtain ⟨A8, hs8, hr8⟩ := row_from L_w10.out hkn
            obtain ⟨hs9, hr9⟩ := row_to L_w10.out hkn
            rw [← hkd.out, gt_drop hg.out.sorted] at hr8
            rw [← hkd.out, le_take hg.out.sorted] at hr9
            replace hr8 := Lib.hid hr8
            replace hr9 := Lib.hid hr9
            rw [hkd.out] at hr8 hr9
            have hLc1 : Hid (Lc.length ≤ 1000) := Lib.hid (by rw [hLc.out]; have := hlec.out; omega)
            have hLd1 : Hid (Ld.length ≤ 1000) := Lib.hid (by rw [hLd.out]; have := hlec.out; omega)
            go_wp2_with fail
            go_at_call 17
            (with_reducible refine (same_true c_w10.out hr8.out hLc.out hLc1.out).mono ?_)
            rintro e w11 ⟨rfl, hb11⟩
            have L_w11 := Lib.hid (L_w10.out.below hb11)
            have b_w11 := Lib.hid (b_w10.out.below hb11)
            have c_w11 := Lib.hid (c_w10.out.below hb11)
            have d_w11 := Lib.hid (d_w10.out.below hb11)
            have r8_w11 := Lib.hid (hr8.out.below hb11)
            have r9_w11 := Lib.hid (hr9.out.below hb11)
            have B_w11 := bt B_w10 hb11
            clear L_w10 b_w10 c_w10 d_w10 hr8 hr9 B_w10 hb11
            go_wp2_with fail
            go_at_call 17
            (with_reducible refine (same_true d_w11.out r9_w11.out hLd.out hLd1.out).mono ?_)
            rintro e w12 ⟨rfl, hb12⟩
            have L_w12 := Lib.hid (L_w11.out.below hb12)
            have b_w12 := Lib.hid (b_w11.out.below hb12)
            have c_w12 := Lib.hid (c_w11.out.below hb12)
            have d_w12 := Lib.hid (d_w11.out.below hb12)
            have r8_w12 := Lib.hid (r8_w11.out.below hb12)
            have r9_w12 := Lib.hid (r9_w11.out.below hb12)
            have B_w12 := bt B_w11 hb12
            clear L_w11 b_w11 c_w11 d_w11 r8_w11 r9_w11 B_w11 hb12
            go_wp2_with fail
            go_ret
            exact ⟨rfl, fin.out _ B_w12⟩
        · have hn0 : ((n : Int) == 0) = false := by have := hlen.out; have := (List.getElem?_eq_some_iff.1 hx).1; simp; omega
          have hn2 : (0 : Int) < (n : Int) := by have := hlen.out; have := (List.getElem?_eq_some_iff.1 hx).1; omega
          obtain ⟨b, f, rfl, hbw, q0, q1⟩ := SlT.at_ L_w9.out.sl hx
          rw [Nat.zero_mul, Nat.add_zero] at q0 q1
          clear hN q0
          replace hx := Lib.hid hx
          rcases hC.out with ⟨hc1, rfl, rfl, rfl⟩ | ⟨hc1, hLc, hLd, rfl⟩

          · rcases may_cases hc1 with hc2 | hc2
            all_goals
              clear hc1 hC
              go_wp2_with fail
              go_ret
              exact ⟨rfl, fin.out _ B_w9⟩
          · obtain ⟨hc2, hc3⟩ := may_true hc1
            replace hc1 := Lib.hid hc1
            replace hLc := Lib.hid hLc
            replace hLd := Lib.hid hLd
            clear hC
            go_wp2_with fail
            go_at_call 20
            (with_reducible refine (due_any L_w9.out hl1000 now).mono ?_)
            rintro e w10 ⟨rfl, hb10⟩
            have L_w10 := Lib.hid (L_w9.out.below hb10)
            have b_w10 := Lib.hid (b_w9.out.below hb10)
            have c_w10 := Lib.hid (c_w9.out.below hb10)
            have d_w10 := Lib.hid (d_w9.out.below hb10)
            have B_w10 := bt B_w9 hb10
            clear L_w9 b_w9 c_w9 d_w9 B_w9 hb10
            obtain ⟨kd, hkd⟩ : ∃ kd, (leT l now).length = kd := ⟨_, rfl⟩
            have hkn : kd ≤ n := by have := hlec.out; have := hlen.out; omega
            rw [hkd]
            replace hkd := Lib.hid hkd
            obtain ⟨A8, hs8, hr8⟩ := row_from L_w10.out hkn
            obtain ⟨hs9, hr9⟩ := row_to L_w10.out hkn
            rw [← hkd.out, gt_drop hg.out.sorted] at hr8
            rw [← hkd.out, le_take hg.out.sorted] at hr9
            replace hr8 := Lib.hid hr8
            replace hr9 := Lib.hid hr9
            rw [hkd.out] at hr8 hr9
            have hLc1 : Hid (Lc.length ≤ 1000) := Lib.hid (by rw [hLc.out]; have := hlec.out; omega)
            have hLd1 : Hid (Ld.length ≤ 1000) := Lib.hid (by rw [hLd.out]; have := hlec.out; omega)
            go_wp2_with fail
            go_at_call 17
            (with_reducible refine (same_true c_w10.out hr8.out hLc.out hLc1.out).mono ?_)
            rintro e w11 ⟨rfl, hb11⟩
            have L_w11 := Lib.hid (L_w10.out.below hb11)
            have b_w11 := Lib.hid (b_w10.out.below hb11)
            have c_w11 := Lib.hid (c_w10.out.below hb11)
            have d_w11 := Lib.hid (d_w10.out.below hb11)
            have r8_w11 := Lib.hid (hr8.out.below hb11)
            have r9_w11 := Lib.hid (hr9.out.below hb11)
            have B_w11 := bt B_w10 hb11
            clear L_w10 b_w10 c_w10 d_w10 hr8 hr9 B_w10 hb11
            go_wp2_with fail
            go_at_call 17
            (with_reducible refine (same_true d_w11.out r9_w11.out hLd.out hLd1.out).mono ?_)
            rintro e w12 ⟨rfl, hb12⟩
            have L_w12 := Lib.hid (L_w11.out.below hb12)
            have b_w12 := Lib.hid (b_w11.out.below hb12)
            have c_w12 := Lib.hid (c_w11.out.below hb12)
            have d_w12 := Lib.hid (d_w11.out.below hb12)
            have r8_w12 := Lib.hid (r8_w11.out.below hb12)
            have r9_w12 := Lib.hid (r9_w11.out.below hb12)
            have B_w12 := bt B_w11 hb12
            clear L_w11 b_w11 c_w11 d_w11 r8_w11 r9_w11 B_w11 hb12
            go_wp2_with fail
            go_ret
            exact ⟨rfl, fin.out _ B_w12⟩
      · clear hB
        replace hb2 := Lib.hid hb2
        go_wp2_with fail
        go_at_call 18
        (with_reducible refine (place_row L_w9.out hl1000 id (-1) (place_min hb2.out)).mono ?_)
        rintro e w10 ⟨rfl, hb10⟩
        have L_w10 := Lib.hid (L_w9.out.below hb10)
        have b_w10 := Lib.hid (b_w9.out.below hb10)
        have c_w10 := Lib.hid (c_w9.out.below hb10)
        have d_w10 := Lib.hid (d_w9.out.below hb10)
        have B_w10 := bt B_w9 hb10
        clear L_w9 b_w9 c_w9 d_w9 B_w9 hb10
        rcases hN.out with ⟨hn1, rfl, rfl⟩ | ⟨x, hx, rfl, rfl⟩
        · have hn0 : ((n : Int) == 0) = true := by have := hlen.out; rw [hn1] at this; simpa using this
          clear hN
          replace hn1 := Lib.hid hn1
          rcases hC.out with ⟨hc1, rfl, rfl, rfl⟩ | ⟨hc1, hLc, hLd, rfl⟩

          · rcases may_cases hc1 with hc2 | hc2
            all_goals
              clear hc1 hC
              go_wp2_with fail
              go_ret
              exact ⟨rfl, fin.out _ B_w10⟩
          · obtain ⟨hc2, hc3⟩ := may_true hc1
            replace hc1 := Lib.hid hc1
            replace hLc := Lib.hid hLc
            replace hLd := Lib.hid hLd
            clear hC
            go_wp2_with fail
            go_at_call 20
            (with_reducible refine (due_any L_w10.out hl1000 now).mono ?_)
            rintro e w11 ⟨rfl, hb11⟩
            have L_w11 := Lib.hid (L_w10.out.below hb11)
            have b_w11 := Lib.hid (b_w10.out.below hb11)
            have c_w11 := Lib.hid (c_w10.out.below hb11)
            have d_w11 := Lib.hid (d_w10.out.below hb11)
            have B_w11 := bt B_w10 hb11
            clear L_w10 b_w10 c_w10 d_w10 B_w10 hb11
            obtain ⟨kd, hkd⟩ : ∃ kd, (leT l now).length = kd := ⟨_, rfl⟩
            have hkn : kd ≤ n := by have := hlec.out; have := hlen.out; omega
            rw [hkd]
            replace hkd := Lib.hid hkd
            obtain ⟨A8, hs8, hr8⟩ := row_from L_w11.out hkn
            obtain ⟨hs9, hr9⟩ := row_to L_w11.out hkn
            rw [← hkd.out, gt_drop hg.out.sorted] at hr8
            rw [← hkd.out, le_take hg.out.sorted] at hr9
            replace hr8 := Lib.hid hr8
            replace hr9 := Lib.hid hr9
            rw [hkd.out] at hr8 hr9
            have hLc1 : Hid (Lc.length ≤ 1000) := Lib.hid (by rw [hLc.out]; have := hlec.out; omega)
            have hLd1 : Hid (Ld.length ≤ 1000) := Lib.hid (by rw [hLd.out]; have := hlec.out; omega)
            go_wp2_with fail
            go_at_call 17
            (with_reducible refine (same_true c_w11.out hr8.out hLc.out hLc1.out).mono ?_)
            rintro e w12 ⟨rfl, hb12⟩
            have L_w12 := Lib.hid (L_w11.out.below hb12)
            have b_w12 := Lib.hid (b_w11.out.below hb12)
            have c_w12 := Lib.hid (c_w11.out.below hb12)
            have d_w12 := Lib.hid (d_w11.out.below hb12)
            have r8_w12 := Lib.hid (hr8.out.below hb12)
            have r9_w12 := Lib.hid (hr9.out.below hb12)
            have B_w12 := bt B_w11 hb12
            clear L_w11 b_w11 c_w11 d_w11 hr8 hr9 B_w11 hb12
            go_wp2_with fail
            go_at_call 17
            (with_reducible refine (same_true d_w12.out r9_w12.out hLd.out hLd1.out).mono ?_)
            rintro e w13 ⟨rfl, hb13⟩
            have L_w13 := Lib.hid (L_w12.out.below hb13)
            have b_w13 := Lib.hid (b_w12.out.below hb13)
            have c_w13 := Lib.hid (c_w12.out.below hb13)
            have d_w13 := Lib.hid (d_w12.out.below hb13)
            have r8_w13 := Lib.hid (r8_w12.out.below hb13)
            have r9_w13 := Lib.hid (r9_w12.out.below hb13)
            have B_w13 := bt B_w12 hb13
            clear L_w12 b_w12 c_w12 d_w12 r8_w12 r9_w12 B_w12 hb13
            go_wp2_with fail
            go_ret
            exact ⟨rfl, fin.out _ B_w13⟩
        · have hn0 : ((n : Int) == 0) = false := by have := hlen.out; have := (List.getElem?_eq_some_iff.1 hx).1; simp; omega
          have hn2 : (0 : Int) < (n : Int) := by have := hlen.out; have := (List.getElem?_eq_some_iff.1 hx).1; omega
          obtain ⟨b, f, rfl, hbw, q0, q1⟩ := SlT.at_ L_w10.out.sl hx
          rw [Nat.zero_mul, Nat.add_zero] at q0 q1
          clear hN q0
          replace hx := Lib.hid hx
          rcases hC.out with ⟨hc1, rfl, rfl, rfl⟩ | ⟨hc1, hLc, hLd, rfl⟩

          · rcases may_cases hc1 with hc2 | hc2
            all_goals
              clear hc1 hC
              go_wp2_with fail
              go_ret
              exact ⟨rfl, fin.out _ B_w10⟩
          · obtain ⟨hc2, hc3⟩ := may_true hc1
            replace hc1 := Lib.hid hc1
            replace hLc := Lib.hid hLc
            replace hLd := Lib.hid hLd
            clear hC
            go_wp2_with fail
            go_at_call 20
            (with_reducible refine (due_any L_w10.out hl1000 now).mono ?_)
            rintro e w11 ⟨rfl, hb11⟩
            have L_w11 := Lib.hid (L_w10.out.below hb11)
            have b_w11 := Lib.hid (b_w10.out.below hb11)
            have c_w11 := Lib.hid (c_w10.out.below hb11)
            have d_w11 := Lib.hid (d_w10.out.below hb11)
            have B_w11 := bt B_w10 hb11
            clear L_w10 b_w10 c_w10 d_w10 B_w10 hb11
            obtain ⟨kd, hkd⟩ : ∃ kd, (leT l now).length = kd := ⟨_, rfl⟩
            have hkn : kd ≤ n := by have := hlec.out; have := hlen.out; omega
            rw [hkd]
            replace hkd := Lib.hid hkd
            obtain ⟨A8, hs8, hr8⟩ := row_from L_w11.out hkn
            obtain ⟨hs9, hr9⟩ := row_to L_w11.out hkn
            rw [← hkd.out, gt_drop hg.out.sorted] at hr8
            rw [← hkd.out, le_take hg.out.sorted] at hr9
            replace hr8 := Lib.hid hr8
            replace hr9 := Lib.hid hr9
            rw [hkd.out] at hr8 hr9
            have hLc1 : Hid (Lc.length ≤ 1000) := Lib.hid (by rw [hLc.out]; have := hlec.out; omega)
            have hLd1 : Hid (Ld.length ≤ 1000) := Lib.hid (by rw [hLd.out]; have := hlec.out; omega)
            go_wp2_with fail
            go_at_call 17
            (with_reducible refine (same_true c_w11.out hr8.out hLc.out hLc1.out).mono ?_)
            rintro e w12 ⟨rfl, hb12⟩
            have L_w12 := Lib.hid (L_w11.out.below hb12)
            have b_w12 := Lib.hid (b_w11.out.below hb12)
            have c_w12 := Lib.hid (c_w11.out.below hb12)
            have d_w12 := Lib.hid (d_w11.out.below hb12)
            have r8_w12 := Lib.hid (hr8.out.below hb12)
            have r9_w12 := Lib.hid (hr9.out.below hb12)
            have B_w12 := bt B_w11 hb12
            clear L_w11 b_w11 c_w11 d_w11 hr8 hr9 B_w11 hb12
            go_wp2_with fail
            go_at_call 17
            (with_reducible refine (same_true d_w12.out r9_w12.out hLd.out hLd1.out).mono ?_)
            rintro e w13 ⟨rfl, hb13⟩
            have L_w13 := Lib.hid (L_w12.out.below hb13)
            have b_w13 := Lib.hid (b_w12.out.below hb13)
            have c_w13 := Lib.hid (c_w12.out.below hb13)
            have d_w13 := Lib.hid (d_w12.out.below hb13)
            have r8_w13 := Lib.hid (r8_w12.out.below hb13)
            have r9_w13 := Lib.hid (r9_w12.out.below hb13)
            have B_w13 := bt B_w12 hb13
            clear L_w12 b_w12 c_w12 d_w12 r8_w12 r9_w12 B_w12 hb13
            go_wp2_with fail
            go_ret
            exact ⟨rfl, fin.out _ B_w13⟩
      · clear hB
        replace hb2 := Lib.hid hb2
        obtain ⟨pl, hpl⟩ : ∃ pl, placeI l id = pl := ⟨_, rfl⟩
        have hp0 : 0 ≤ pl := by rw [← hpl]; exact place_pos hb2.out
        replace hpl := Lib.hid hpl
        have hLb' : Lb = Lo := hLb.trans hLo.out
        clear hLb
        subst hLb'
        go_wp2_with fail
        go_at_call 18
        (with_reducible refine (place_row L_w9.out hl1000 id pl hpl.out).mono ?_)
        rintro e w10 ⟨rfl, hb10⟩
        have L_w10 := Lib.hid (L_w9.out.below hb10)
        have b_w10 := Lib.hid (b_w9.out.below hb10)
        have c_w10 := Lib.hid (c_w9.out.below hb10)
        have d_w10 := Lib.hid (d_w9.out.below hb10)
        have B_w10 := bt B_w9 hb10
        clear L_w9 b_w9 c_w9 d_w9 B_w9 hb10
        go_wp2_with fail
        go_at_call 19
        (with_reducible refine (ref_without_any L_w10.out hl1000 id).mono ?_)
        rw [hLo.out]
        rintro e w11 ⟨A7, c7, rfl, o7, _, hb11⟩
        have L_w11 := Lib.hid (L_w10.out.below hb11)
        have b_w11 := Lib.hid (b_w10.out.below hb11)
        have c_w11 := Lib.hid (c_w10.out.below hb11)
        have d_w11 := Lib.hid (d_w10.out.below hb11)
        have o_w11 := Lib.hid (own_row o7)
        have B_w11 := bt B_w10 hb11
        clear L_w10 b_w10 c_w10 d_w10 B_w10 hb11
        clear o7
        go_wp2_with fail
        go_at_call 17
        (with_reducible refine (same_true b_w11.out o_w11.out rfl ho1000).mono ?_)
        rintro e w12 ⟨rfl, hb12⟩
        have L_w12 := Lib.hid (L_w11.out.below hb12)
        have b_w12 := Lib.hid (b_w11.out.below hb12)
        have c_w12 := Lib.hid (c_w11.out.below hb12)
        have d_w12 := Lib.hid (d_w11.out.below hb12)
        have o_w12 := Lib.hid (o_w11.out.below hb12)
        have B_w12 := bt B_w11 hb12
        clear L_w11 b_w11 c_w11 d_w11 o_w11 B_w11 hb12
        clear o_w12
        rcases hN.out with ⟨hn1, rfl, rfl⟩ | ⟨x, hx, rfl, rfl⟩
        · have hn0 : ((n : Int) == 0) = true := by have := hlen.out; rw [hn1] at this; simpa using this
          clear hN
          replace hn1 := Lib.hid hn1
          rcases hC.out with ⟨hc1, rfl, rfl, rfl⟩ | ⟨hc1, hLc, hLd, rfl⟩

          · rcases may_cases hc1 with hc2 | hc2
            all_goals
              clear hc1 hC
              go_wp2_with fail
              go_ret
              exact ⟨rfl, fin.out _ B_w12⟩
          · obtain ⟨hc2, hc3⟩ := may_true hc1
            replace hc1 := Lib.hid hc1
            replace hLc := Lib.hid hLc
            replace hLd := Lib.hid hLd
            clear hC
            go_wp2_with fail
            go_at_call 20
            (with_reducible refine (due_any L_w12.out hl1000 now).mono ?_)
            rintro e w13 ⟨rfl, hb13⟩
            have L_w13 := Lib.hid (L_w12.out.below hb13)
            have b_w13 := Lib.hid (b_w12.out.below hb13)
            have c_w13 := Lib.hid (c_w12.out.below hb13)
            have d_w13 := Lib.hid (d_w12.out.below hb13)
            have B_w13 := bt B_w12 hb13
            clear L_w12 b_w12 c_w12 d_w12 B_w12 hb13
            obtain ⟨kd, hkd⟩ : ∃ kd, (leT l now).length = kd := ⟨_, rfl⟩
            have hkn : kd ≤ n := by have := hlec.out; have := hlen.out; omega
            rw [hkd]
            replace hkd := Lib.hid hkd
            obtain ⟨A8, hs8, hr8⟩ := row_from L_w13.out hkn
            obtain ⟨hs9, hr9⟩ := row_to L_w13.out hkn
            rw [← hkd.out, gt_drop hg.out.sorted] at hr8
            rw [← hkd.out, le_take hg.out.sorted] at hr9
            replace hr8 := Lib.hid hr8
            replace hr9 := Lib.hid hr9
            rw [hkd.out] at hr8 hr9
            have hLc1 : Hid (Lc.length ≤ 1000) := Lib.hid (by rw [hLc.out]; have := hlec.out; omega)
            have hLd1 : Hid (Ld.length ≤ 1000) := Lib.hid (by rw [hLd.out]; have := hlec.out; omega)
            go_wp2_with fail
            go_at_call 17
            (with_reducible refine (same_true c_w13.out hr8.out hLc.out hLc1.out).mono ?_)
            rintro e w14 ⟨rfl, hb14⟩
            have L_w14 := Lib.hid (L_w13.out.below hb14)
            have b_w14 := Lib.hid (b_w13.out.below hb14)
            have c_w14 := Lib.hid (c_w13.out.below hb14)
            have d_w14 := Lib.hid (d_w13.out.below hb14)
            have r8_w14 := Lib.hid (hr8.out.below hb14)
            have r9_w14 := Lib.hid (hr9.out.below hb14)
            have B_w14 := bt B_w13 hb14
            clear L_w13 b_w13 c_w13 d_w13 hr8 hr9 B_w13 hb14
            go_wp2_with fail
            go_at_call 17
            (with_reducible refine (same_true d_w14.out r9_w14.out hLd.out hLd1.out).mono ?_)
            rintro e w15 ⟨rfl, hb15⟩
            have L_w15 := Lib.hid (L_w14.out.below hb15)
            have b_w15 := Lib.hid (b_w14.out.below hb15)
            have c_w15 := Lib.hid (c_w14.out.below hb15)
            have d_w15 := Lib.hid (d_w14.out.below hb15)
            have r8_w15 := Lib.hid (r8_w14.out.below hb15)
            have r9_w15 := Lib.hid (r9_w14.out.below hb15)
            have B_w15 := bt B_w14 hb15
            clear L_w14 b_w14 c_w14 d_w14 r8_w14 r9_w14 B_w14 hb15
            go_wp2_with fail
            go_ret
            exact ⟨rfl, fin.out _ B_w15⟩
        · have hn0 : ((n : Int) == 0) = false := by have := hlen.out; have := (List.getElem?_eq_some_iff.1 hx).1; simp; omega
          have hn2 : (0 : Int) < (n : Int) := by have := hlen.out; have := (List.getElem?_eq_some_iff.1 hx).1; omega
          obtain ⟨b, f, rfl, hbw, q0, q1⟩ := SlT.at_ L_w12.out.sl hx
          rw [Nat.zero_mul, Nat.add_zero] at q0 q1
          clear hN q0
          replace hx := Lib.hid hx
          rcases hC.out with ⟨hc1, rfl, rfl, rfl⟩ | ⟨hc1, hLc, hLd, rfl⟩

          · rcases may_cases hc1 with hc2 | hc2
            all_goals
              clear hc1 hC
              go_wp2_with fail
              go_ret
              exact ⟨rfl, fin.out _ B_w12⟩
          · obtain ⟨hc2, hc3⟩ := may_true hc1
            replace hc1 := Lib.hid hc1
            replace hLc := Lib.hid hLc
            replace hLd := Lib.hid hLd
            clear hC
            go_wp2_with fail
            go_at_call 20
            (with_reducible refine (due_any L_w12.out hl1000 now).mono ?_)
            rintro e w13 ⟨rfl, hb13⟩
            have L_w13 := Lib.hid (L_w12.out.below hb13)
            have b_w13 := Lib.hid (b_w12.out.below hb13)
            have c_w13 := Lib.hid (c_w12.out.below hb13)
            have d_w13 := Lib.hid (d_w12.out.below hb13)
            have B_w13 := bt B_w12 hb13
            clear L_w12 b_w12 c_w12 d_w12 B_w12 hb13
            obtain ⟨kd, hkd⟩ : ∃ kd, (leT l now).length = kd := ⟨_, rfl⟩
            have hkn : kd ≤ n := by have := hlec.out; have := hlen.out; omega
            rw [hkd]
            replace hkd := Lib.hid hkd
            obtain ⟨A8, hs8, hr8⟩ := row_from L_w13.out hkn
            obtain ⟨hs9, hr9⟩ := row_to L_w13.out hkn
            rw [← hkd.out, gt_drop hg.out.sorted] at hr8
            rw [← hkd.out, le_take hg.out.sorted] at hr9
            replace hr8 := Lib.hid hr8
            replace hr9 := Lib.hid hr9
            rw [hkd.out] at hr8 hr9
            have hLc1 : Hid (Lc.length ≤ 1000) := Lib.hid (by rw [hLc.out]; have := hlec.out; omega)
            have hLd1 : Hid (Ld.length ≤ 1000) := Lib.hid (by rw [hLd.out]; have := hlec.out; omega)
            go_wp2_with fail
            go_at_call 17
            (with_reducible refine (same_true c_w13.out hr8.out hLc.out hLc1.out).mono ?_)
            rintro e w14 ⟨rfl, hb14⟩
            have L_w14 := Lib.hid (L_w13.out.below hb14)
            have b_w14 := Lib.hid (b_w13.out.below hb14)
            have c_w14 := Lib.hid (c_w13.out.below hb14)
            have d_w14 := Lib.hid (d_w13.out.below hb14)
            have r8_w14 := Lib.hid (hr8.out.below hb14)
            have r9_w14 := Lib.hid (hr9.out.below hb14)
            have B_w14 := bt B_w13 hb14
            clear L_w13 b_w13 c_w13 d_w13 hr8 hr9 B_w13 hb14
            go_wp2_with fail
            go_at_call 17
            (with_reducible refine (same_true d_w14.out r9_w14.out hLd.out hLd1.out).mono ?_)
            rintro e w15 ⟨rfl, hb15⟩
            have L_w15 := Lib.hid (L_w14.out.below hb15)
            have b_w15 := Lib.hid (b_w14.out.below hb15)
            have c_w15 := Lib.hid (c_w14.out.below hb15)
            have d_w15 := Lib.hid (d_w14.out.below hb15)
            have r8_w15 := Lib.hid (r8_w14.out.below hb15)
            have r9_w15 := Lib.hid (r9_w14.out.below hb15)
            have B_w15 := bt B_w14 hb15
            clear L_w14 b_w14 c_w14 d_w14 r8_w14 r9_w14 B_w14 hb15
            go_wp2_with fail
            go_ret
            exact ⟨rfl, fin.out _ B_w15⟩
    · clear hA
      replace ha1 := Lib.hid ha1
      have hw65 : (64 : Int) < (Lw.length : Int) := by have := hwn.out; omega
      clear ha2
      go_wp2_with fail
      go_at_call 16
      (with_reducible refine (may_is i a _ ha1.out _).mono ?_)
      rintro e w9 ⟨rfl, hb9⟩
      have L_w9 := Lib.hid (L_w8.out.below hb9)
      have a_w9 := Lib.hid (a_w8.out.below hb9)
      have b_w9 := Lib.hid (b_w8.out.below hb9)
      have c_w9 := Lib.hid (c_w8.out.below hb9)
      have d_w9 := Lib.hid (d_w8.out.below hb9)
      have w_w9 := Lib.hid (w_w8.out.below hb9)
      have x0_w9 := (hb9.cell (p := ⟨nb, _, none⟩) znb_w8).trans x0_w8
      have x1_w9 := (hb9.cell (p := ⟨nb, _, none⟩) znb_w8).trans x1_w8
      have znb_w9 : nb < w9.heap.size := Nat.lt_of_lt_of_le znb_w8 hb9.size
      have B_w9 := bt B_w8 hb9
      clear L_w8 a_w8 b_w8 c_w8 d_w8 w_w8 x0_w8 x1_w8 znb_w8 B_w8 hb9
      clear x0_w9
      clear x1_w9
      clear a_w9
      clear w_w9
      clear znb_w9
      rcases hB.out with ⟨hb1, rfl, rfl⟩ | ⟨hb1, hb2, rfl, rfl⟩ | ⟨hb1, hb2, hLb, rfl⟩
      · clear hB
        rcases hN.out with ⟨hn1, rfl, rfl⟩ | ⟨x, hx, rfl, rfl⟩
        · have hn0 : ((n : Int) == 0) = true := by have := hlen.out; rw [hn1] at this; simpa using this
          clear hN
          replace hn1 := Lib.hid hn1
          rcases hC.out with ⟨hc1, rfl, rfl, rfl⟩ | ⟨hc1, hLc, hLd, rfl⟩

          · rcases may_cases hc1 with hc2 | hc2
            all_goals
              clear hc1 hC
              go_wp2_with fail
              go_ret
              exact ⟨rfl, fin.out _ B_w9⟩
          · obtain ⟨hc2, hc3⟩ := may_true hc1
            replace hc1 := Lib.hid hc1
            replace hLc := Lib.hid hLc
            replace hLd := Lib.hid hLd
            clear hC
            go_wp2_with fail
            go_at_call 20
            (with_reducible refine (due_any L_w9.out hl1000 now).mono ?_)
            rintro e w10 ⟨rfl, hb10⟩
            have L_w10 := Lib.hid (L_w9.out.below hb10)
            have b_w10 := Lib.hid (b_w9.out.below hb10)
            have c_w10 := Lib.hid (c_w9.out.below hb10)
            have d_w10 := Lib.hid (d_w9.out.below hb10)
            have B_w10 := bt B_w9 hb10
            clear L_w9 b_w9 c_w9 d_w9 B_w9 hb10
            obtain ⟨kd, hkd⟩ : ∃ kd, (leT l now).length = kd := ⟨_, rfl⟩
            have hkn : kd ≤ n := by have := hlec.out; have := hlen.out; omega
            rw [hkd]
            replace hkd := Lib.hid hkd
            obtain ⟨A8, hs8, hr8⟩ := row_from L_w10.out hkn
            obtain ⟨hs9, hr9⟩ := row_to L_w10.out hkn
            rw [← hkd.out, gt_drop hg.out.sorted] at hr8
            rw [← hkd.out, le_take hg.out.sorted] at hr9
            replace hr8 := Lib.hid hr8
            replace hr9 := Lib.hid hr9
            rw [hkd.out] at hr8 hr9
            have hLc1 : Hid (Lc.length ≤ 1000) := Lib.hid (by rw [hLc.out]; have := hlec.out; omega)
            have hLd1 : Hid (Ld.length ≤ 1000) := Lib.hid (by rw [hLd.out]; have := hlec.out; omega)
            go_wp2_with fail
            go_at_call 17
            (with_reducible refine (same_true c_w10.out hr8.out hLc.out hLc1.out).mono ?_)
            rintro e w11 ⟨rfl, hb11⟩
            have L_w11 := Lib.hid (L_w10.out.below hb11)
            have b_w11 := Lib.hid (b_w10.out.below hb11)
            have c_w11 := Lib.hid (c_w10.out.below hb11)
            have d_w11 := Lib.hid (d_w10.out.below hb11)
            have r8_w11 := Lib.hid (hr8.out.below hb11)
            have r9_w11 := Lib.hid (hr9.out.below hb11)
            have B_w11 := bt B_w10 hb11
            clear L_w10 b_w10 c_w10 d_w10 hr8 hr9 B_w10 hb11
            go_wp2_with fail
            go_at_call 17
            (with_reducible refine (same_true d_w11.out r9_w11.out hLd.out hLd1.out).mono ?_)
            rintro e w12 ⟨rfl, hb12⟩
            have L_w12 := Lib.hid (L_w11.out.below hb12)
            have b_w12 := Lib.hid (b_w11.out.below hb12)
            have c_w12 := Lib.hid (c_w11.out.below hb12)
            have d_w12 := Lib.hid (d_w11.out.below hb12)
            have r8_w12 := Lib.hid (r8_w11.out.below hb12)
            have r9_w12 := Lib.hid (r9_w11.out.below hb12)
            have B_w12 := bt B_w11 hb12
            clear L_w11 b_w11 c_w11 d_w11 r8_w11 r9_w11 B_w11 hb12
            go_wp2_with fail
            go_ret
            exact ⟨rfl, fin.out _ B_w12⟩
        · have hn0 : ((n : Int) == 0) = false := by have := hlen.out; have := (List.getElem?_eq_some_iff.1 hx).1; simp; omega
          have hn2 : (0 : Int) < (n : Int) := by have := hlen.out; have := (List.getElem?_eq_some_iff.1 hx).1; omega
          obtain ⟨b, f, rfl, hbw, q0, q1⟩ := SlT.at_ L_w9.out.sl hx
          rw [Nat.zero_mul, Nat.add_zero] at q0 q1
          clear hN q0
          replace hx := Lib.hid hx
          rcases hC.out with ⟨hc1, rfl, rfl, rfl⟩ | ⟨hc1, hLc, hLd, rfl⟩

          · rcases may_cases hc1 with hc2 | hc2
            all_goals
              clear hc1 hC
              go_wp2_with fail
              go_ret
              exact ⟨rfl, fin.out _ B_w9⟩
          · obtain ⟨hc2, hc3⟩ := may_true hc1
            replace hc1 := Lib.hid hc1
            replace hLc := Lib.hid hLc
            replace hLd := Lib.hid hLd
            clear hC
            go_wp2_with fail
            go_at_call 20
            (with_reducible refine (due_any L_w9.out hl1000 now).mono ?_)
            rintro e w10 ⟨rfl, hb10⟩
            have L_w10 := Lib.hid (L_w9.out.below hb10)
            have b_w10 := Lib.hid (b_w9.out.below hb10)
            have c_w10 := Lib.hid (c_w9.out.below hb10)
            have d_w10 := Lib.hid (d_w9.out.below hb10)
            have B_w10 := bt B_w9 hb10
            clear L_w9 b_w9 c_w9 d_w9 B_w9 hb10
            obtain ⟨kd, hkd⟩ : ∃ kd, (leT l now).length = kd := ⟨_, rfl⟩
            have hkn : kd ≤ n := by have := hlec.out; have := hlen.out; omega
            rw [hkd]
            replace hkd := Lib.hid hkd
            obtain ⟨A8, hs8, hr8⟩ := row_from L_w10.out hkn
            obtain ⟨hs9, hr9⟩ := row_to L_w10.out hkn
            rw [← hkd.out, gt_drop hg.out.sorted] at hr8
            rw [← hkd.out, le_take hg.out.sorted] at hr9
            replace hr8 := Lib.hid hr8
            replace hr9 := Lib.hid hr9
            rw [hkd.out] at hr8 hr9
            have hLc1 : Hid (Lc.length ≤ 1000) := Lib.hid (by rw [hLc.out]; have := hlec.out; omega)
            have hLd1 : Hid (Ld.length ≤ 1000) := Lib.hid (by rw [hLd.out]; have := hlec.out; omega)
            go_wp2_with fail
            go_at_call 17
            (with_reducible refine (same_true c_w10.out hr8.out hLc.out hLc1.out).mono ?_)
            rintro e w11 ⟨rfl, hb11⟩
            have L_w11 := Lib.hid (L_w10.out.below hb11)
            have b_w11 := Lib.hid (b_w10.out.below hb11)
            have c_w11 := Lib.hid (c_w10.out.below hb11)
            have d_w11 := Lib.hid (d_w10.out.below hb11)
            have r8_w11 := Lib.hid (hr8.out.below hb11)
            have r9_w11 := Lib.hid (hr9.out.below hb11)
            have B_w11 := bt B_w10 hb11
            clear L_w10 b_w10 c_w10 d_w10 hr8 hr9 B_w10 hb11
            go_wp2_with fail
            go_at_call 17
            (with_reducible refine (same_true d_w11.out r9_w11.out hLd.out hLd1.out).mono ?_)
            rintro e w12 ⟨rfl, hb12⟩
            have L_w12 := Lib.hid (L_w11.out.below hb12)
            have b_w12 := Lib.hid (b_w11.out.below hb12)
            have c_w12 := Lib.hid (c_w11.out.below hb12)
            have d_w12 := Lib.hid (d_w11.out.below hb12)
            have r8_w12 := Lib.hid (r8_w11.out.below hb12)
            have r9_w12 := Lib.hid (r9_w11.out.below hb12)
            have B_w12 := bt B_w11 hb12
            clear L_w11 b_w11 c_w11 d_w11 r8_w11 r9_w11 B_w11 hb12
            go_wp2_with fail
            go_ret
            exact ⟨rfl, fin.out _ B_w12⟩
      · clear hB
        replace hb2 := Lib.hid hb2
        go_wp2_with fail
        go_at_call 18
        (with_reducible refine (place_row L_w9.out hl1000 id (-1) (place_min hb2.out)).mono ?_)
        rintro e w10 ⟨rfl, hb10⟩
        have L_w10 := Lib.hid (L_w9.out.below hb10)
        have b_w10 := Lib.hid (b_w9.out.below hb10)
        have c_w10 := Lib.hid (c_w9.out.below hb10)
        have d_w10 := Lib.hid (d_w9.out.below hb10)
        have B_w10 := bt B_w9 hb10
        clear L_w9 b_w9 c_w9 d_w9 B_w9 hb10
        rcases hN.out with ⟨hn1, rfl, rfl⟩ | ⟨x, hx, rfl, rfl⟩
        · have hn0 : ((n : Int) == 0) = true := by have := hlen.out; rw [hn1] at this; simpa using this
          clear hN
          replace hn1 := Lib.hid hn1
          rcases hC.out with ⟨hc1, rfl, rfl, rfl⟩ | ⟨hc1, hLc, hLd, rfl⟩

          · rcases may_cases hc1 with hc2 | hc2
            all_goals
              clear hc1 hC
              go_wp2_with fail
              go_ret
              exact ⟨rfl, fin.out _ B_w10⟩
          · obtain ⟨hc2, hc3⟩ := may_true hc1
            replace hc1 := Lib.hid hc1
            replace hLc := Lib.hid hLc
            replace hLd := Lib.hid hLd
            clear hC
            go_wp2_with fail
            go_at_call 20
            (with_reducible refine (due_any L_w10.out hl1000 now).mono ?_)
            rintro e w11 ⟨rfl, hb11⟩
            have L_w11 := Lib.hid (L_w10.out.below hb11)
            have b_w11 := Lib.hid (b_w10.out.below hb11)
            have c_w11 := Lib.hid (c_w10.out.below hb11)
            have d_w11 := Lib.hid (d_w10.out.below hb11)
            have B_w11 := bt B_w10 hb11
            clear L_w10 b_w10 c_w10 d_w10 B_w10 hb11
            obtain ⟨kd, hkd⟩ : ∃ kd, (leT l now).length = kd := ⟨_, rfl⟩
            have hkn : kd ≤ n := by have := hlec.out; have := hlen.out; omega
            rw [hkd]
            replace hkd := Lib.hid hkd
            obtain ⟨A8, hs8, hr8⟩ := row_from L_w11.out hkn
            obtain ⟨hs9, hr9⟩ := row_to L_w11.out hkn
            rw [← hkd.out, gt_drop hg.out.sorted] at hr8
            rw [← hkd.out, le_take hg.out.sorted] at hr9
            replace hr8 := Lib.hid hr8
            replace hr9 := Lib.hid hr9
            rw [hkd.out] at hr8 hr9
            have hLc1 : Hid (Lc.length ≤ 1000) := Lib.hid (by rw [hLc.out]; have := hlec.out; omega)
            have hLd1 : Hid (Ld.length ≤ 1000) := Lib.hid (by rw [hLd.out]; have := hlec.out; omega)
            go_wp2_with fail
            go_at_call 17
            (with_reducible refine (same_true c_w11.out hr8.out hLc.out hLc1.out).mono ?_)
            rintro e w12 ⟨rfl, hb12⟩
            have L_w12 := Lib.hid (L_w11.out.below hb12)
            have b_w12 := Lib.hid (b_w11.out.below hb12)
            have c_w12 := Lib.hid (c_w11.out.below hb12)
            have d_w12 := Lib.hid (d_w11.out.below hb12)
            have r8_w12 := Lib.hid (hr8.out.below hb12)
            have r9_w12 := Lib.hid (hr9.out.below hb12)
            have B_w12 := bt B_w11 hb12
            clear L_w11 b_w11 c_w11 d_w11 hr8 hr9 B_w11 hb12
            go_wp2_with fail
            go_at_call 17
            (with_reducible refine (same_true d_w12.out r9_w12.out hLd.out hLd1.out).mono ?_)
            rintro e w13 ⟨rfl, hb13⟩
            have L_w13 := Lib.hid (L_w12.out.below hb13)
            have b_w13 := Lib.hid (b_w12.out.below hb13)
            have c_w13 := Lib.hid (c_w12.out.below hb13)
            have d_w13 := Lib.hid (d_w12.out.below hb13)
            have r8_w13 := Lib.hid (r8_w12.out.below hb13)
            have r9_w13 := Lib.hid (r9_w12.out.below hb13)
            have B_w13 := bt B_w12 hb13
            clear L_w12 b_w12 c_w12 d_w12 r8_w12 r9_w12 B_w12 hb13
            go_wp2_with fail
            go_ret
            exact ⟨rfl, fin.out _ B_w13⟩
        · have hn0 : ((n : Int) == 0) = false := by have := hlen.out; have := (List.getElem?_eq_some_iff.1 hx).1; simp; omega
          have hn2 : (0 : Int) < (n : Int) := by have := hlen.out; have := (List.getElem?_eq_some_iff.1 hx).1; omega
          obtain ⟨b, f, rfl, hbw, q0, q1⟩ := SlT.at_ L_w10.out.sl hx
          rw [Nat.zero_mul, Nat.add_zero] at q0 q1
          clear hN q0
          replace hx := Lib.hid hx
          rcases hC.out with ⟨hc1, rfl, rfl, rfl⟩ | ⟨hc1, hLc, hLd, rfl⟩

          · rcases may_cases hc1 with hc2 | hc2
            all_goals
              clear hc1 hC
              go_wp2_with fail
              go_ret
              exact ⟨rfl, fin.out _ B_w10⟩
          · obtain ⟨hc2, hc3⟩ := may_true hc1
            replace hc1 := Lib.hid hc1
            replace hLc := Lib.hid hLc
            replace hLd := Lib.hid hLd
            clear hC
            go_wp2_with fail
            go_at_call 20
            (with_reducible refine (due_any L_w10.out hl1000 now).mono ?_)
            rintro e w11 ⟨rfl, hb11⟩
            have L_w11 := Lib.hid (L_w10.out.below hb11)
            have b_w11 := Lib.hid (b_w10.out.below hb11)
            have c_w11 := Lib.hid (c_w10.out.below hb11)
            have d_w11 := Lib.hid (d_w10.out.below hb11)
            have B_w11 := bt B_w10 hb11
            clear L_w10 b_w10 c_w10 d_w10 B_w10 hb11
            obtain ⟨kd, hkd⟩ : ∃ kd, (leT l now).length = kd := ⟨_, rfl⟩
            have hkn : kd ≤ n := by have := hlec.out; have := hlen.out; omega
            rw [hkd]
            replace hkd := Lib.hid hkd
            obtain ⟨A8, hs8, hr8⟩ := row_from L_w11.out hkn
            obtain ⟨hs9, hr9⟩ := row_to L_w11.out hkn
            rw [← hkd.out, gt_drop hg.out.sorted] at hr8
            rw [← hkd.out, le_take hg.out.sorted] at hr9
            replace hr8 := Lib.hid hr8
            replace hr9 := Lib.hid hr9
            rw [hkd.out] at hr8 hr9
            have hLc1 : Hid (Lc.length ≤ 1000) := Lib.hid (by rw [hLc.out]; have := hlec.out; omega)
            have hLd1 : Hid (Ld.length ≤ 1000) := Lib.hid (by rw [hLd.out]; have := hlec.out; omega)
            go_wp2_with fail
            go_at_call 17
            (with_reducible refine (same_true c_w11.out hr8.out hLc.out hLc1.out).mono ?_)
            rintro e w12 ⟨rfl, hb12⟩
            have L_w12 := Lib.hid (L_w11.out.below hb12)
            have b_w12 := Lib.hid (b_w11.out.below hb12)
            have c_w12 := Lib.hid (c_w11.out.below hb12)
            have d_w12 := Lib.hid (d_w11.out.below hb12)
            have r8_w12 := Lib.hid (hr8.out.below hb12)
            have r9_w12 := Lib.hid (hr9.out.below hb12)
            have B_w12 := bt B_w11 hb12
            clear L_w11 b_w11 c_w11 d_w11 hr8 hr9 B_w11 hb12
            go_wp2_with fail
            go_at_call 17
            (with_reducible refine (same_true d_w12.out r9_w12.out hLd.out hLd1.out).mono ?_)
            rintro e w13 ⟨rfl, hb13⟩
            have L_w13 := Lib.hid (L_w12.out.below hb13)
            have b_w13 := Lib.hid (b_w12.out.below hb13)
            have c_w13 := Lib.hid (c_w12.out.below hb13)
            have d_w13 := Lib.hid (d_w12.out.below hb13)
            have r8_w13 := Lib.hid (r8_w12.out.below hb13)
            have r9_w13 := Lib.hid (r9_w12.out.below hb13)
            have B_w13 := bt B_w12 hb13
            clear L_w12 b_w12 c_w12 d_w12 r8_w12 r9_w12 B_w12 hb13
            go_wp2_with fail
            go_ret
            exact ⟨rfl, fin.out _ B_w13⟩
      · clear hB
        replace hb2 := Lib.hid hb2
        obtain ⟨pl, hpl⟩ : ∃ pl, placeI l id = pl := ⟨_, rfl⟩
        have hp0 : 0 ≤ pl := by rw [← hpl]; exact place_pos hb2.out
        replace hpl := Lib.hid hpl
        have hLb' : Lb = Lo := hLb.trans hLo.out
        clear hLb
        subst hLb'
        go_wp2_with fail
        go_at_call 18
        (with_reducible refine (place_row L_w9.out hl1000 id pl hpl.out).mono ?_)
        rintro e w10 ⟨rfl, hb10⟩
        have L_w10 := Lib.hid (L_w9.out.below hb10)
        have b_w10 := Lib.hid (b_w9.out.below hb10)
        have c_w10 := Lib.hid (c_w9.out.below hb10)
        have d_w10 := Lib.hid (d_w9.out.below hb10)
        have B_w10 := bt B_w9 hb10
        clear L_w9 b_w9 c_w9 d_w9 B_w9 hb10
        go_wp2_with fail
        go_at_call 19
        (with_reducible refine (ref_without_any L_w10.out hl1000 id).mono ?_)
        rw [hLo.out]
        rintro e w11 ⟨A7, c7, rfl, o7, _, hb11⟩
        have L_w11 := Lib.hid (L_w10.out.below hb11)
        have b_w11 := Lib.hid (b_w10.out.below hb11)
        have c_w11 := Lib.hid (c_w10.out.below hb11)
        have d_w11 := Lib.hid (d_w10.out.below hb11)
        have o_w11 := Lib.hid (own_row o7)
        have B_w11 := bt B_w10 hb11
        clear L_w10 b_w10 c_w10 d_w10 B_w10 hb11
        clear o7
        go_wp2_with fail
        go_at_call 17
        (with_reducible refine (same_true b_w11.out o_w11.out rfl ho1000).mono ?_)
        rintro e w12 ⟨rfl, hb12⟩
        have L_w12 := Lib.hid (L_w11.out.below hb12)
        have b_w12 := Lib.hid (b_w11.out.below hb12)
        have c_w12 := Lib.hid (c_w11.out.below hb12)
        have d_w12 := Lib.hid (d_w11.out.below hb12)
        have o_w12 := Lib.hid (o_w11.out.below hb12)
        have B_w12 := bt B_w11 hb12
        clear L_w11 b_w11 c_w11 d_w11 o_w11 B_w11 hb12
        clear o_w12
        rcases hN.out with ⟨hn1, rfl, rfl⟩ | ⟨x, hx, rfl, rfl⟩
        · have hn0 : ((n : Int) == 0) = true := by have := hlen.out; rw [hn1] at this; simpa using this
          clear hN
          replace hn1 := Lib.hid hn1
          rcases hC.out with ⟨hc1, rfl, rfl, rfl⟩ | ⟨hc1, hLc, hLd, rfl⟩

          · rcases may_cases hc1 with hc2 | hc2
            all_goals
              clear hc1 hC
              go_wp2_with fail
              go_ret
              exact ⟨rfl, fin.out _ B_w12⟩
          · obtain ⟨hc2, hc3⟩ := may_true hc1
            replace hc1 := Lib.hid hc1
            replace hLc := Lib.hid hLc
            replace hLd := Lib.hid hLd
            clear hC
            go_wp2_with fail
            go_at_call 20
            (with_reducible refine (due_any L_w12.out hl1000 now).mono ?_)
            rintro e w13 ⟨rfl, hb13⟩
            have L_w13 := Lib.hid (L_w12.out.below hb13)
            have b_w13 := Lib.hid (b_w12.out.below hb13)
            have c_w13 := Lib.hid (c_w12.out.below hb13)
            have d_w13 := Lib.hid (d_w12.out.below hb13)
            have B_w13 := bt B_w12 hb13
            clear L_w12 b_w12 c_w12 d_w12 B_w12 hb13
            obtain ⟨kd, hkd⟩ : ∃ kd, (leT l now).length = kd := ⟨_, rfl⟩
            have hkn : kd ≤ n := by have := hlec.out; have := hlen.out; omega
            rw [hkd]
            replace hkd := Lib.hid hkd
            obtain ⟨A8, hs8, hr8⟩ := row_from L_w13.out hkn
            obtain ⟨hs9, hr9⟩ := row_to L_w13.out hkn
            rw [← hkd.out, gt_drop hg.out.sorted] at hr8
            rw [← hkd.out, le_take hg.out.sorted] at hr9
            replace hr8 := Lib.hid hr8
            replace hr9 := Lib.hid hr9
            rw [hkd.out] at hr8 hr9
            have hLc1 : Hid (Lc.length ≤ 1000) := Lib.hid (by rw [hLc.out]; have := hlec.out; omega)
            have hLd1 : Hid (Ld.length ≤ 1000) := Lib.hid (by rw [hLd.out]; have := hlec.out; omega)
            go_wp2_with fail
            go_at_call 17
            (with_reducible refine (same_true c_w13.out hr8.out hLc.out hLc1.out).mono ?_)
            rintro e w14 ⟨rfl, hb14⟩
            have L_w14 := Lib.hid (L_w13.out.below hb14)
            have b_w14 := Lib.hid (b_w13.out.below hb14)
            have c_w14 := Lib.hid (c_w13.out.below hb14)
            have d_w14 := Lib.hid (d_w13.out.below hb14)
            have r8_w14 := Lib.hid (hr8.out.below hb14)
            have r9_w14 := Lib.hid (hr9.out.below hb14)
            have B_w14 := bt B_w13 hb14
            clear L_w13 b_w13 c_w13 d_w13 hr8 hr9 B_w13 hb14
            go_wp2_with fail
            go_at_call 17
            (with_reducible refine (same_true d_w14.out r9_w14.out hLd.out hLd1.out).mono ?_)
            rintro e w15 ⟨rfl, hb15⟩
            have L_w15 := Lib.hid (L_w14.out.below hb15)
            have b_w15 := Lib.hid (b_w14.out.below hb15)
            have c_w15 := Lib.hid (c_w14.out.below hb15)
            have d_w15 := Lib.hid (d_w14.out.below hb15)
            have r8_w15 := Lib.hid (r8_w14.out.below hb15)
            have r9_w15 := Lib.hid (r9_w14.out.below hb15)
            have B_w15 := bt B_w14 hb15
            clear L_w14 b_w14 c_w14 d_w14 r8_w14 r9_w14 B_w14 hb15
            go_wp2_with fail
            go_ret
            exact ⟨rfl, fin.out _ B_w15⟩
        · have hn0 : ((n : Int) == 0) = false := by have := hlen.out; have := (List.getElem?_eq_some_iff.1 hx).1; simp; omega
          have hn2 : (0 : Int) < (n : Int) := by have := hlen.out; have := (List.getElem?_eq_some_iff.1 hx).1; omega
          obtain ⟨b, f, rfl, hbw, q0, q1⟩ := SlT.at_ L_w12.out.sl hx
          rw [Nat.zero_mul, Nat.add_zero] at q0 q1
          clear hN q0
          replace hx := Lib.hid hx
          rcases hC.out with ⟨hc1, rfl, rfl, rfl⟩ | ⟨hc1, hLc, hLd, rfl⟩

          · rcases may_cases hc1 with hc2 | hc2
            all_goals
              clear hc1 hC
              go_wp2_with fail
              go_ret
              exact ⟨rfl, fin.out _ B_w12⟩
          · obtain ⟨hc2, hc3⟩ := may_true hc1
            replace hc1 := Lib.hid hc1
            replace hLc := Lib.hid hLc
            replace hLd := Lib.hid hLd
            clear hC
            go_wp2_with fail
            go_at_call 20
            (with_reducible refine (due_any L_w12.out hl1000 now).mono ?_)
            rintro e w13 ⟨rfl, hb13⟩
            have L_w13 := Lib.hid (L_w12.out.below hb13)
            have b_w13 := Lib.hid (b_w12.out.below hb13)
            have c_w13 := Lib.hid (c_w12.out.below hb13)
            have d_w13 := Lib.hid (d_w12.out.below hb13)
            have B_w13 := bt B_w12 hb13
            clear L_w12 b_w12 c_w12 d_w12 B_w12 hb13
            obtain ⟨kd, hkd⟩ : ∃ kd, (leT l now).length = kd := ⟨_, rfl⟩
            have hkn : kd ≤ n := by have := hlec.out; have := hlen.out; omega
            rw [hkd]
            replace hkd := Lib.hid hkd
            obtain ⟨A8, hs8, hr8⟩ := row_from L_w13.out hkn
            obtain ⟨hs9, hr9⟩ := row_to L_w13.out hkn
            rw [← hkd.out, gt_drop hg.out.sorted] at hr8
            rw [← hkd.out, le_take hg.out.sorted] at hr9
            replace hr8 := Lib.hid hr8
            replace hr9 := Lib.hid hr9
            rw [hkd.out] at hr8 hr9
            have hLc1 : Hid (Lc.length ≤ 1000) := Lib.hid (by rw [hLc.out]; have := hlec.out; omega)
            have hLd1 : Hid (Ld.length ≤ 1000) := Lib.hid (by rw [hLd.out]; have := hlec.out; omega)
            go_wp2_with fail
            go_at_call 17
            (with_reducible refine (same_true c_w13.out hr8.out hLc.out hLc1.out).mono ?_)
            rintro e w14 ⟨rfl, hb14⟩
            have L_w14 := Lib.hid (L_w13.out.below hb14)
            have b_w14 := Lib.hid (b_w13.out.below hb14)
            have c_w14 := Lib.hid (c_w13.out.below hb14)
            have d_w14 := Lib.hid (d_w13.out.below hb14)
            have r8_w14 := Lib.hid (hr8.out.below hb14)
            have r9_w14 := Lib.hid (hr9.out.below hb14)
            have B_w14 := bt B_w13 hb14
            clear L_w13 b_w13 c_w13 d_w13 hr8 hr9 B_w13 hb14
            go_wp2_with fail
            go_at_call 17
            (with_reducible refine (same_true d_w14.out r9_w14.out hLd.out hLd1.out).mono ?_)
            rintro e w15 ⟨rfl, hb15⟩
            have L_w15 := Lib.hid (L_w14.out.below hb15)
            have b_w15 := Lib.hid (b_w14.out.below hb15)
            have c_w15 := Lib.hid (c_w14.out.below hb15)
            have d_w15 := Lib.hid (d_w14.out.below hb15)
            have r8_w15 := Lib.hid (r8_w14.out.below hb15)
            have r9_w15 := Lib.hid (r9_w14.out.below hb15)
            have B_w15 := bt B_w14 hb15
            clear L_w14 b_w14 c_w14 d_w14 r8_w14 r9_w14 B_w14 hb15
            go_wp2_with fail
            go_ret
            exact ⟨rfl, fin.out _ B_w15⟩
    · clear hA
      replace ha1 := Lib.hid ha1
      have hw65 : (Lw.length : Int) ≤ (64 : Int) := by have := hwn.out; have := hwl.out; omega
      clear ha2
      have hLa' : La = Lw := hLa.trans hLw.out
      clear hLa
      subst hLa'
      go_wp2_with fail
      go_at_call 16
      (with_reducible refine (may_is i a _ ha1.out _).mono ?_)
      rintro e w9 ⟨rfl, hb9⟩
      have L_w9 := Lib.hid (L_w8.out.below hb9)
      have a_w9 := Lib.hid (a_w8.out.below hb9)
      have b_w9 := Lib.hid (b_w8.out.below hb9)
      have c_w9 := Lib.hid (c_w8.out.below hb9)
      have d_w9 := Lib.hid (d_w8.out.below hb9)
      have w_w9 := Lib.hid (w_w8.out.below hb9)
      have x0_w9 := (hb9.cell (p := ⟨nb, _, none⟩) znb_w8).trans x0_w8
      have x1_w9 := (hb9.cell (p := ⟨nb, _, none⟩) znb_w8).trans x1_w8
      have znb_w9 : nb < w9.heap.size := Nat.lt_of_lt_of_le znb_w8 hb9.size
      have B_w9 := bt B_w8 hb9
      clear L_w8 a_w8 b_w8 c_w8 d_w8 w_w8 x0_w8 x1_w8 znb_w8 B_w8 hb9
      clear x0_w9
      clear x1_w9
      clear znb_w9
      go_wp2_with fail
      go_at_call 17
      (with_reducible refine (same_true a_w9.out w_w9.out rfl hw1000).mono ?_)
      rintro e w10 ⟨rfl, hb10⟩
      have L_w10 := Lib.hid (L_w9.out.below hb10)
      have a_w10 := Lib.hid (a_w9.out.below hb10)
      have b_w10 := Lib.hid (b_w9.out.below hb10)
      have c_w10 := Lib.hid (c_w9.out.below hb10)
      have d_w10 := Lib.hid (d_w9.out.below hb10)
      have w_w10 := Lib.hid (w_w9.out.below hb10)
      have B_w10 := bt B_w9 hb10
      clear L_w9 a_w9 b_w9 c_w9 d_w9 w_w9 B_w9 hb10
      clear a_w10
      clear w_w10
      rcases hB.out with ⟨hb1, rfl, rfl⟩ | ⟨hb1, hb2, rfl, rfl⟩ | ⟨hb1, hb2, hLb, rfl⟩
      · clear hB
        rcases hN.out with ⟨hn1, rfl, rfl⟩ | ⟨x, hx, rfl, rfl⟩
        · have hn0 : ((n : Int) == 0) = true := by have := hlen.out; rw [hn1] at this; simpa using this
          clear hN
          replace hn1 := Lib.hid hn1
          rcases hC.out with ⟨hc1, rfl, rfl, rfl⟩ | ⟨hc1, hLc, hLd, rfl⟩

          · rcases may_cases hc1 with hc2 | hc2
            all_goals
              clear hc1 hC
              go_wp2_with fail
              go_ret
              exact ⟨rfl, fin.out _ B_w10⟩
          · obtain ⟨hc2, hc3⟩ := may_true hc1
            replace hc1 := Lib.hid hc1
            replace hLc := Lib.hid hLc
            replace hLd := Lib.hid hLd
            clear hC
            go_wp2_with fail
            go_at_call 20
            (with_reducible refine (due_any L_w10.out hl1000 now).mono ?_)
            rintro e w11 ⟨rfl, hb11⟩
            have L_w11 := Lib.hid (L_w10.out.below hb11)
            have b_w11 := Lib.hid (b_w10.out.below hb11)
            have c_w11 := Lib.hid (c_w10.out.below hb11)
            have d_w11 := Lib.hid (d_w10.out.below hb11)
            have B_w11 := bt B_w10 hb11
            clear L_w10 b_w10 c_w10 d_w10 B_w10 hb11
            obtain ⟨kd, hkd⟩ : ∃ kd, (leT l now).length = kd := ⟨_, rfl⟩
            have hkn : kd ≤ n := by have := hlec.out; have := hlen.out; omega
            rw [hkd]
            replace hkd := Lib.hid hkd
            obtain ⟨A8, hs8, hr8⟩ := row_from L_w11.out hkn
            obtain ⟨hs9, hr9⟩ := row_to L_w11.out hkn
            rw [← hkd.out, gt_drop hg.out.sorted] at hr8
            rw [← hkd.out, le_take hg.out.sorted] at hr9
            replace hr8 := Lib.hid hr8
            replace hr9 := Lib.hid hr9
            rw [hkd.out] at hr8 hr9
            have hLc1 : Hid (Lc.length ≤ 1000) := Lib.hid (by rw [hLc.out]; have := hlec.out; omega)
            have hLd1 : Hid (Ld.length ≤ 1000) := Lib.hid (by rw [hLd.out]; have := hlec.out; omega)
            go_wp2_with fail
            go_at_call 17
            (with_reducible refine (same_true c_w11.out hr8.out hLc.out hLc1.out).mono ?_)
            rintro e w12 ⟨rfl, hb12⟩
            have L_w12 := Lib.hid (L_w11.out.below hb12)
            have b_w12 := Lib.hid (b_w11.out.below hb12)
            have c_w12 := Lib.hid (c_w11.out.below hb12)
            have d_w12 := Lib.hid (d_w11.out.below hb12)
            have r8_w12 := Lib.hid (hr8.out.below hb12)
            have r9_w12 := Lib.hid (hr9.out.below hb12)
            have B_w12 := bt B_w11 hb12
            clear L_w11 b_w11 c_w11 d_w11 hr8 hr9 B_w11 hb12
            go_wp2_with fail
            go_at_call 17
            (with_reducible refine (same_true d_w12.out r9_w12.out hLd.out hLd1.out).mono ?_)
            rintro e w13 ⟨rfl, hb13⟩
            have L_w13 := Lib.hid (L_w12.out.below hb13)
            have b_w13 := Lib.hid (b_w12.out.below hb13)
            have c_w13 := Lib.hid (c_w12.out.below hb13)
            have d_w13 := Lib.hid (d_w12.out.below hb13)
            have r8_w13 := Lib.hid (r8_w12.out.below hb13)
            have r9_w13 := Lib.hid (r9_w12.out.below hb13)
            have B_w13 := bt B_w12 hb13
            clear L_w12 b_w12 c_w12 d_w12 r8_w12 r9_w12 B_w12 hb13
            go_wp2_with fail
            go_ret
            exact ⟨rfl, fin.out _ B_w13⟩
        · have hn0 : ((n : Int) == 0) = false := by have := hlen.out; have := (List.getElem?_eq_some_iff.1 hx).1; simp; omega
          have hn2 : (0 : Int) < (n : Int) := by have := hlen.out; have := (List.getElem?_eq_some_iff.1 hx).1; omega
          obtain ⟨b, f, rfl, hbw, q0, q1⟩ := SlT.at_ L_w10.out.sl hx
          rw [Nat.zero_mul, Nat.add_zero] at q0 q1
          clear hN q0
          replace hx := Lib.hid hx
          rcases hC.out with ⟨hc1, rfl, rfl, rfl⟩ | ⟨hc1, hLc, hLd, rfl⟩

          · rcases may_cases hc1 with hc2 | hc2
            all_goals
              clear hc1 hC
              go_wp2_with fail
              go_ret
              exact ⟨rfl, fin.out _ B_w10⟩
          · obtain ⟨hc2, hc3⟩ := may_true hc1
            replace hc1 := Lib.hid hc1
            replace hLc := Lib.hid hLc
            replace hLd := Lib.hid hLd
            clear hC
            go_wp2_with fail
            go_at_call 20
            (with_reducible refine (due_any L_w10.out hl1000 now).mono ?_)
            rintro e w11 ⟨rfl, hb11⟩
            have L_w11 := Lib.hid (L_w10.out.below hb11)
            have b_w11 := Lib.hid (b_w10.out.below hb11)
            have c_w11 := Lib.hid (c_w10.out.below hb11)
            have d_w11 := Lib.hid (d_w10.out.below hb11)
            have B_w11 := bt B_w10 hb11
            clear L_w10 b_w10 c_w10 d_w10 B_w10 hb11
            obtain ⟨kd, hkd⟩ : ∃ kd, (leT l now).length = kd := ⟨_, rfl⟩
            have hkn : kd ≤ n := by have := hlec.out; have := hlen.out; omega
            rw [hkd]
            replace hkd := Lib.hid hkd
            obtain ⟨A8, hs8, hr8⟩ := row_from L_w11.out hkn
            obtain ⟨hs9, hr9⟩ := row_to L_w11.out hkn
            rw [← hkd.out, gt_drop hg.out.sorted] at hr8
            rw [← hkd.out, le_take hg.out.sorted] at hr9
            replace hr8 := Lib.hid hr8
            replace hr9 := Lib.hid hr9
            rw [hkd.out] at hr8 hr9
            have hLc1 : Hid (Lc.length ≤ 1000) := Lib.hid (by rw [hLc.out]; have := hlec.out; omega)
            have hLd1 : Hid (Ld.length ≤ 1000) := Lib.hid (by rw [hLd.out]; have := hlec.out; omega)
            go_wp2_with fail
            go_at_call 17
            (with_reducible refine (same_true c_w11.out hr8.out hLc.out hLc1.out).mono ?_)
            rintro e w12 ⟨rfl, hb12⟩
            have L_w12 := Lib.hid (L_w11.out.below hb12)
            have b_w12 := Lib.hid (b_w11.out.below hb12)
            have c_w12 := Lib.hid (c_w11.out.below hb12)
            have d_w12 := Lib.hid (d_w11.out.below hb12)
            have r8_w12 := Lib.hid (hr8.out.below hb12)
            have r9_w12 := Lib.hid (hr9.out.below hb12)
            have B_w12 := bt B_w11 hb12
            clear L_w11 b_w11 c_w11 d_w11 hr8 hr9 B_w11 hb12
            go_wp2_with fail
            go_at_call 17
            (with_reducible refine (same_true d_w12.out r9_w12.out hLd.out hLd1.out).mono ?_)
            rintro e w13 ⟨rfl, hb13⟩
            have L_w13 := Lib.hid (L_w12.out.below hb13)
            have b_w13 := Lib.hid (b_w12.out.below hb13)
            have c_w13 := Lib.hid (c_w12.out.below hb13)
            have d_w13 := Lib.hid (d_w12.out.below hb13)
            have r8_w13 := Lib.hid (r8_w12.out.below hb13)
            have r9_w13 := Lib.hid (r9_w12.out.below hb13)
            have B_w13 := bt B_w12 hb13
            clear L_w12 b_w12 c_w12 d_w12 r8_w12 r9_w12 B_w12 hb13
            go_wp2_with fail
            go_ret
            exact ⟨rfl, fin.out _ B_w13⟩
      · clear hB
        replace hb2 := Lib.hid hb2
        go_wp2_with fail
        go_at_call 18
        (with_reducible refine (place_row L_w10.out hl1000 id (-1) (place_min hb2.out)).mono ?_)
        rintro e w11 ⟨rfl, hb11⟩
        have L_w11 := Lib.hid (L_w10.out.below hb11)
        have b_w11 := Lib.hid (b_w10.out.below hb11)
        have c_w11 := Lib.hid (c_w10.out.below hb11)
        have d_w11 := Lib.hid (d_w10.out.below hb11)
        have B_w11 := bt B_w10 hb11
        clear L_w10 b_w10 c_w10 d_w10 B_w10 hb11
        rcases hN.out with ⟨hn1, rfl, rfl⟩ | ⟨x, hx, rfl, rfl⟩
        · have hn0 : ((n : Int) == 0) = true := by have := hlen.out; rw [hn1] at this; simpa using this
          clear hN
          replace hn1 := Lib.hid hn1
          rcases hC.out with ⟨hc1, rfl, rfl, rfl⟩ | ⟨hc1, hLc, hLd, rfl⟩

          · rcases may_cases hc1 with hc2 | hc2
            all_goals
              clear hc1 hC
              go_wp2_with fail
              go_ret
              exact ⟨rfl, fin.out _ B_w11⟩
          · obtain ⟨hc2, hc3⟩ := may_true hc1
            replace hc1 := Lib.hid hc1
            replace hLc := Lib.hid hLc
            replace hLd := Lib.hid hLd
            clear hC
            go_wp2_with fail
            go_at_call 20
            (with_reducible refine (due_any L_w11.out hl1000 now).mono ?_)
            rintro e w12 ⟨rfl, hb12⟩
            have L_w12 := Lib.hid (L_w11.out.below hb12)
            have b_w12 := Lib.hid (b_w11.out.below hb12)
            have c_w12 := Lib.hid (c_w11.out.below hb12)
            have d_w12 := Lib.hid (d_w11.out.below hb12)
            have B_w12 := bt B_w11 hb12
            clear L_w11 b_w11 c_w11 d_w11 B_w11 hb12
            obtain ⟨kd, hkd⟩ : ∃ kd, (leT l now).length = kd := ⟨_, rfl⟩
            have hkn : kd ≤ n := by have := hlec.out; have := hlen.out; omega
            rw [hkd]
            replace hkd := Lib.hid hkd
            obtain ⟨A8, hs8, hr8⟩ := row_from L_w12.out hkn
            obtain ⟨hs9, hr9⟩ := row_to L_w12.out hkn
            rw [← hkd.out, gt_drop hg.out.sorted] at hr8
            rw [← hkd.out, le_take hg.out.sorted] at hr9
            replace hr8 := Lib.hid hr8
            replace hr9 := Lib.hid hr9
            rw [hkd.out] at hr8 hr9
            have hLc1 : Hid (Lc.length ≤ 1000) := Lib.hid (by rw [hLc.out]; have := hlec.out; omega)
            have hLd1 : Hid (Ld.length ≤ 1000) := Lib.hid (by rw [hLd.out]; have := hlec.out; omega)
            go_wp2_with fail
            go_at_call 17
            (with_reducible refine (same_true c_w12.out hr8.out hLc.out hLc1.out).mono ?_)
            rintro e w13 ⟨rfl, hb13⟩
            have L_w13 := Lib.hid (L_w12.out.below hb13)
            have b_w13 := Lib.hid (b_w12.out.below hb13)
            have c_w13 := Lib.hid (c_w12.out.below hb13)
            have d_w13 := Lib.hid (d_w12.out.below hb13)
            have r8_w13 := Lib.hid (hr8.out.below hb13)
            have r9_w13 := Lib.hid (hr9.out.below hb13)
            have B_w13 := bt B_w12 hb13
            clear L_w12 b_w12 c_w12 d_w12 hr8 hr9 B_w12 hb13
            go_wp2_with fail
            go_at_call 17
            (with_reducible refine (same_true d_w13.out r9_w13.out hLd.out hLd1.out).mono ?_)
            rintro e w14 ⟨rfl, hb14⟩
            have L_w14 := Lib.hid (L_w13.out.below hb14)
            have b_w14 := Lib.hid (b_w13.out.below hb14)
            have c_w14 := Lib.hid (c_w13.out.below hb14)
            have d_w14 := Lib.hid (d_w13.out.below hb14)
            have r8_w14 := Lib.hid (r8_w13.out.below hb14)
            have r9_w14 := Lib.hid (r9_w13.out.below hb14)
            have B_w14 := bt B_w13 hb14
            clear L_w13 b_w13 c_w13 d_w13 r8_w13 r9_w13 B_w13 hb14
            go_wp2_with fail
            go_ret
            exact ⟨rfl, fin.out _ B_w14⟩
        · have hn0 : ((n : Int) == 0) = false := by have := hlen.out; have := (List.getElem?_eq_some_iff.1 hx).1; simp; omega
          have hn2 : (0 : Int) < (n : Int) := by have := hlen.out; have := (List.getElem?_eq_some_iff.1 hx).1; omega
          obtain ⟨b, f, rfl, hbw, q0, q1⟩ := SlT.at_ L_w11.out.sl hx
          rw [Nat.zero_mul, Nat.add_zero] at q0 q1
          clear hN q0
          replace hx := Lib.hid hx
          rcases hC.out with ⟨hc1, rfl, rfl, rfl⟩ | ⟨hc1, hLc, hLd, rfl⟩

          · rcases may_cases hc1 with hc2 | hc2
            all_goals
              clear hc1 hC
              go_wp2_with fail
              go_ret
              exact ⟨rfl, fin.out _ B_w11⟩
          · obtain ⟨hc2, hc3⟩ := may_true hc1
            replace hc1 := Lib.hid hc1
            replace hLc := Lib.hid hLc
            replace hLd := Lib.hid hLd
            clear hC
            go_wp2_with fail
            go_at_call 20
            (with_reducible refine (due_any L_w11.out hl1000 now).mono ?_)
            rintro e w12 ⟨rfl, hb12⟩
            have L_w12 := Lib.hid (L_w11.out.below hb12)
            have b_w12 := Lib.hid (b_w11.out.below hb12)
            have c_w12 := Lib.hid (c_w11.out.below hb12)
            have d_w12 := Lib.hid (d_w11.out.below hb12)
            have B_w12 := bt B_w11 hb12
            clear L_w11 b_w11 c_w11 d_w11 B_w11 hb12
            obtain ⟨kd, hkd⟩ : ∃ kd, (leT l now).length = kd := ⟨_, rfl⟩
            have hkn : kd ≤ n := by have := hlec.out; have := hlen.out; omega
            rw [hkd]
            replace hkd := Lib.hid hkd
            obtain ⟨A8, hs8, hr8⟩ := row_from L_w12.out hkn
            obtain ⟨hs9, hr9⟩ := row_to L_w12.out hkn
            rw [← hkd.out, gt_drop hg.out.sorted] at hr8
            rw [← hkd.out, le_take hg.out.sorted] at hr9
            replace hr8 := Lib.hid hr8
            replace hr9 := Lib.hid hr9
            rw [hkd.out] at hr8 hr9
            have hLc1 : Hid (Lc.length ≤ 1000) := Lib.hid (by rw [hLc.out]; have := hlec.out; omega)
            have hLd1 : Hid (Ld.length ≤ 1000) := Lib.hid (by rw [hLd.out]; have := hlec.out; omega)
            go_wp2_with fail
            go_at_call 17
            (with_reducible refine (same_true c_w12.out hr8.out hLc.out hLc1.out).mono ?_)
            rintro e w13 ⟨rfl, hb13⟩
            have L_w13 := Lib.hid (L_w12.out.below hb13)
            have b_w13 := Lib.hid (b_w12.out.below hb13)
            have c_w13 := Lib.hid (c_w12.out.below hb13)
            have d_w13 := Lib.hid (d_w12.out.below hb13)
            have r8_w13 := Lib.hid (hr8.out.below hb13)
            have r9_w13 := Lib.hid (hr9.out.below hb13)
            have B_w13 := bt B_w12 hb13
            clear L_w12 b_w12 c_w12 d_w12 hr8 hr9 B_w12 hb13
            go_wp2_with fail
            go_at_call 17
            (with_reducible refine (same_true d_w13.out r9_w13.out hLd.out hLd1.out).mono ?_)
            rintro e w14 ⟨rfl, hb14⟩
            have L_w14 := Lib.hid (L_w13.out.below hb14)
            have b_w14 := Lib.hid (b_w13.out.below hb14)
            have c_w14 := Lib.hid (c_w13.out.below hb14)
            have d_w14 := Lib.hid (d_w13.out.below hb14)
            have r8_w14 := Lib.hid (r8_w13.out.below hb14)
            have r9_w14 := Lib.hid (r9_w13.out.below hb14)
            have B_w14 := bt B_w13 hb14
            clear L_w13 b_w13 c_w13 d_w13 r8_w13 r9_w13 B_w13 hb14
            go_wp2_with fail
            go_ret
            exact ⟨rfl, fin.out _ B_w14⟩
      · clear hB
        replace hb2 := Lib.hid hb2
        obtain ⟨pl, hpl⟩ : ∃ pl, placeI l id = pl := ⟨_, rfl⟩
        have hp0 : 0 ≤ pl := by rw [← hpl]; exact place_pos hb2.out
        replace hpl := Lib.hid hpl
        have hLb' : Lb = Lo := hLb.trans hLo.out
        clear hLb
        subst hLb'
        go_wp2_with fail
        go_at_call 18
        (with_reducible refine (place_row L_w10.out hl1000 id pl hpl.out).mono ?_)
        rintro e w11 ⟨rfl, hb11⟩
        have L_w11 := Lib.hid (L_w10.out.below hb11)
        have b_w11 := Lib.hid (b_w10.out.below hb11)
        have c_w11 := Lib.hid (c_w10.out.below hb11)
        have d_w11 := Lib.hid (d_w10.out.below hb11)
        have B_w11 := bt B_w10 hb11
        clear L_w10 b_w10 c_w10 d_w10 B_w10 hb11
        go_wp2_with fail
        go_at_call 19
        (with_reducible refine (ref_without_any L_w11.out hl1000 id).mono ?_)
        rw [hLo.out]
        rintro e w12 ⟨A7, c7, rfl, o7, _, hb12⟩
        have L_w12 := Lib.hid (L_w11.out.below hb12)
        have b_w12 := Lib.hid (b_w11.out.below hb12)
        have c_w12 := Lib.hid (c_w11.out.below hb12)
        have d_w12 := Lib.hid (d_w11.out.below hb12)
        have o_w12 := Lib.hid (own_row o7)
        have B_w12 := bt B_w11 hb12
        clear L_w11 b_w11 c_w11 d_w11 B_w11 hb12
        clear o7
        go_wp2_with fail
        go_at_call 17
        (with_reducible refine (same_true b_w12.out o_w12.out rfl ho1000).mono ?_)
        rintro e w13 ⟨rfl, hb13⟩
        have L_w13 := Lib.hid (L_w12.out.below hb13)
        have b_w13 := Lib.hid (b_w12.out.below hb13)
        have c_w13 := Lib.hid (c_w12.out.below hb13)
        have d_w13 := Lib.hid (d_w12.out.below hb13)
        have o_w13 := Lib.hid (o_w12.out.below hb13)
        have B_w13 := bt B_w12 hb13
        clear L_w12 b_w12 c_w12 d_w12 o_w12 B_w12 hb13
        clear o_w13
        rcases hN.out with ⟨hn1, rfl, rfl⟩ | ⟨x, hx, rfl, rfl⟩
        · have hn0 : ((n : Int) == 0) = true := by have := hlen.out; rw [hn1] at this; simpa using this
          clear hN
          replace hn1 := Lib.hid hn1
          rcases hC.out with ⟨hc1, rfl, rfl, rfl⟩ | ⟨hc1, hLc, hLd, rfl⟩

          · rcases may_cases hc1 with hc2 | hc2
            all_goals
              clear hc1 hC
              go_wp2_with fail
              go_ret
              exact ⟨rfl, fin.out _ B_w13⟩
          · obtain ⟨hc2, hc3⟩ := may_true hc1
            replace hc1 := Lib.hid hc1
            replace hLc := Lib.hid hLc
            replace hLd := Lib.hid hLd
            clear hC
            go_wp2_with fail
            go_at_call 20
            (with_reducible refine (due_any L_w13.out hl1000 now).mono ?_)
            rintro e w14 ⟨rfl, hb14⟩
            have L_w14 := Lib.hid (L_w13.out.below hb14)
            have b_w14 := Lib.hid (b_w13.out.below hb14)
            have c_w14 := Lib.hid (c_w13.out.below hb14)
            have d_w14 := Lib.hid (d_w13.out.below hb14)
            have B_w14 := bt B_w13 hb14
            clear L_w13 b_w13 c_w13 d_w13 B_w13 hb14
            obtain ⟨kd, hkd⟩ : ∃ kd, (leT l now).length = kd := ⟨_, rfl⟩
            have hkn : kd ≤ n := by have := hlec.out; have := hlen.out; omega
            rw [hkd]
            replace hkd := Lib.hid hkd
            obtain ⟨A8, hs8, hr8⟩ := row_from L_w14.out hkn
            obtain ⟨hs9, hr9⟩ := row_to L_w14.out hkn
            rw [← hkd.out, gt_drop hg.out.sorted] at hr8
            rw [← hkd.out, le_take hg.out.sorted] at hr9
            replace hr8 := Lib.hid hr8
            replace hr9 := Lib.hid hr9
            rw [hkd.out] at hr8 hr9
            have hLc1 : Hid (Lc.length ≤ 1000) := Lib.hid (by rw [hLc.out]; have := hlec.out; omega)
            have hLd1 : Hid (Ld.length ≤ 1000) := Lib.hid (by rw [hLd.out]; have := hlec.out; omega)
            go_wp2_with fail
            go_at_call 17
            (with_reducible refine (same_true c_w14.out hr8.out hLc.out hLc1.out).mono ?_)
            rintro e w15 ⟨rfl, hb15⟩
            have L_w15 := Lib.hid (L_w14.out.below hb15)
            have b_w15 := Lib.hid (b_w14.out.below hb15)
            have c_w15 := Lib.hid (c_w14.out.below hb15)
            have d_w15 := Lib.hid (d_w14.out.below hb15)
            have r8_w15 := Lib.hid (hr8.out.below hb15)
            have r9_w15 := Lib.hid (hr9.out.below hb15)
            have B_w15 := bt B_w14 hb15
            clear L_w14 b_w14 c_w14 d_w14 hr8 hr9 B_w14 hb15
            go_wp2_with fail
            go_at_call 17
            (with_reducible refine (same_true d_w15.out r9_w15.out hLd.out hLd1.out).mono ?_)
            rintro e w16 ⟨rfl, hb16⟩
            have L_w16 := Lib.hid (L_w15.out.below hb16)
            have b_w16 := Lib.hid (b_w15.out.below hb16)
            have c_w16 := Lib.hid (c_w15.out.below hb16)
            have d_w16 := Lib.hid (d_w15.out.below hb16)
            have r8_w16 := Lib.hid (r8_w15.out.below hb16)
            have r9_w16 := Lib.hid (r9_w15.out.below hb16)
            have B_w16 := bt B_w15 hb16
            clear L_w15 b_w15 c_w15 d_w15 r8_w15 r9_w15 B_w15 hb16
            go_wp2_with fail
            go_ret
            exact ⟨rfl, fin.out _ B_w16⟩
        · have hn0 : ((n : Int) == 0) = false := by have := hlen.out; have := (List.getElem?_eq_some_iff.1 hx).1; simp; omega
          have hn2 : (0 : Int) < (n : Int) := by have := hlen.out; have := (List.getElem?_eq_some_iff.1 hx).1; omega
          obtain ⟨b, f, rfl, hbw, q0, q1⟩ := SlT.at_ L_w13.out.sl hx
          rw [Nat.zero_mul, Nat.add_zero] at q0 q1
          clear hN q0
          replace hx := Lib.hid hx
          rcases hC.out with ⟨hc1, rfl, rfl, rfl⟩ | ⟨hc1, hLc, hLd, rfl⟩

          · rcases may_cases hc1 with hc2 | hc2
            all_goals
              clear hc1 hC
              go_wp2_with fail
              go_ret
              exact ⟨rfl, fin.out _ B_w13⟩
          · obtain ⟨hc2, hc3⟩ := may_true hc1
            replace hc1 := Lib.hid hc1
            replace hLc := Lib.hid hLc
            replace hLd := Lib.hid hLd
            clear hC
            go_wp2_with fail
            go_at_call 20
            (with_reducible refine (due_any L_w13.out hl1000 now).mono ?_)
            rintro e w14 ⟨rfl, hb14⟩
            have L_w14 := Lib.hid (L_w13.out.below hb14)
            have b_w14 := Lib.hid (b_w13.out.below hb14)
            have c_w14 := Lib.hid (c_w13.out.below hb14)
            have d_w14 := Lib.hid (d_w13.out.below hb14)
            have B_w14 := bt B_w13 hb14
            clear L_w13 b_w13 c_w13 d_w13 B_w13 hb14
            obtain ⟨kd, hkd⟩ : ∃ kd, (leT l now).length = kd := ⟨_, rfl⟩
            have hkn : kd ≤ n := by have := hlec.out; have := hlen.out; omega
            rw [hkd]
            replace hkd := Lib.hid hkd
            obtain ⟨A8, hs8, hr8⟩ := row_from L_w14.out hkn
            obtain ⟨hs9, hr9⟩ := row_to L_w14.out hkn
            rw [← hkd.out, gt_drop hg.out.sorted] at hr8
            rw [← hkd.out, le_take hg.out.sorted] at hr9
            replace hr8 := Lib.hid hr8
            replace hr9 := Lib.hid hr9
            rw [hkd.out] at hr8 hr9
            have hLc1 : Hid (Lc.length ≤ 1000) := Lib.hid (by rw [hLc.out]; have := hlec.out; omega)
            have hLd1 : Hid (Ld.length ≤ 1000) := Lib.hid (by rw [hLd.out]; have := hlec.out; omega)
            go_wp2_with fail
            go_at_call 17
            (with_reducible refine (same_true c_w14.out hr8.out hLc.out hLc1.out).mono ?_)
            rintro e w15 ⟨rfl, hb15⟩
            have L_w15 := Lib.hid (L_w14.out.below hb15)
            have b_w15 := Lib.hid (b_w14.out.below hb15)
            have c_w15 := Lib.hid (c_w14.out.below hb15)
            have d_w15 := Lib.hid (d_w14.out.below hb15)
            have r8_w15 := Lib.hid (hr8.out.below hb15)
            have r9_w15 := Lib.hid (hr9.out.below hb15)
            have B_w15 := bt B_w14 hb15
            clear L_w14 b_w14 c_w14 d_w14 hr8 hr9 B_w14 hb15
            go_wp2_with fail
            go_at_call 17
            (with_reducible refine (same_true d_w15.out r9_w15.out hLd.out hLd1.out).mono ?_)
            rintro e w16 ⟨rfl, hb16⟩
            have L_w16 := Lib.hid (L_w15.out.below hb16)
            have b_w16 := Lib.hid (b_w15.out.below hb16)
            have c_w16 := Lib.hid (c_w15.out.below hb16)
            have d_w16 := Lib.hid (d_w15.out.below hb16)
            have r8_w16 := Lib.hid (r8_w15.out.below hb16)
            have r9_w16 := Lib.hid (r9_w15.out.below hb16)
            have B_w16 := bt B_w15 hb16
            clear L_w15 b_w15 c_w15 d_w15 r8_w15 r9_w15 B_w15 hb16
            go_wp2_with fail
            go_ret
            exact ⟨rfl, fin.out _ B_w16⟩
end Go.Proofs.Ytdieoecpacplmaa.WheelP
