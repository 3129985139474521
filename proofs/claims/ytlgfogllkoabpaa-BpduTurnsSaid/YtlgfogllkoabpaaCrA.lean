/-
  A function that starts a few workers, who add to one atomic number, and joins them: the world of that phase; the starter's stops.
-/
import Derived.Test.YtlgfogllkoabpaaLink
import Derived.Lib.Hide
namespace Go.Proofs.Ytlgfogllkoabpaa.SimP
open Go.Conc Go.ConcN Go.RowKit Go.Conc.Lib Go.ConcR.Gen Go.ConcN.Gen
open Go.ConcR (KK wgBlock WgAt stA smA rd wr mk DC0)
set_option linter.unusedVariables false
set_option maxRecDepth 100000

/-- The world of the phase that begins in W: its number 'tot', its group's state and semaphore. -/
def wd (W : World) (tT tW : TypeId) (d : Nat) (st sm tot : Int) : World := { W with heap := (W.heap.push (.cells #[.int .i64 tot] tT)).push (.cells #[.int .u64 st, .int .u32 sm] tW), drawn := d }
def Ph (W : World) (tT tW : TypeId) (w : World) : Prop := ∃ d st sm tot, w = wd W tT tW d st sm tot
/-- Whatever the others do in the phase. -/
def RP (W : World) (tT tW : TypeId) (_ w₁ : World) : Prop := Ph W tT tW w₁

theorem rl {W : World} {tT tW : TypeId} {w w₁ : World} (_ : Ph W tT tW w) (h : RP W tT tW w w₁) : Ph W tT tW w₁ := h

theorem wd_wg (W : World) (tT tW : TypeId) (d : Nat) (st sm tot : Int) : WgAt tW (W.heap.size + 1) (wd W tT tW d st sm tot) st sm := by
  unfold WgAt wd wgBlock
  simp only [Array.getElem?_push, Array.size_push]
  rw [if_pos trivial]
theorem wd_tot (W : World) (tT tW : TypeId) (d : Nat) (st sm tot : Int) : (wd W tT tW d st sm tot).heap[W.heap.size]? = some (.cells #[.int .i64 tot] tT) := by
  unfold wd
  simp only [Array.getElem?_push, Array.size_push]
  rw [if_neg (by omega), if_pos trivial]
theorem ph_cell {W : World} {tT tW : TypeId} {w : World} (h : Ph W tT tW w) : ∃ v, w.cell? ⟨W.heap.size + 1, 1, none⟩ = some v := by
  obtain ⟨d, st, sm, tot, rfl⟩ := h
  exact ⟨_, (wd_wg W tT tW d st sm tot).cellSm⟩
theorem ph_cell0 {W : World} {tT tW : TypeId} {w : World} (h : Ph W tT tW w) : ∃ v, w.cell? ⟨W.heap.size + 1, 0, none⟩ = some v := by
  obtain ⟨d, st, sm, tot, rfl⟩ := h
  exact ⟨_, (wd_wg W tT tW d st sm tot).cellSt⟩

theorem modify_last (a : Array Obj) (x : Obj) (f : Obj → Obj) : (a.push x).modify a.size f = a.push (f x) := by
  apply Array.ext_getElem?
  intro i
  simp only [Array.getElem?_modify, Array.getElem?_push]
  by_cases h : i = a.size
  · subst h; simp
  · simp [h, Ne.symm h]
theorem modify_early (a : Array Obj) (x : Obj) (f : Obj → Obj) {i : Nat} (hi : i < a.size) : (a.push x).modify i f = (a.modify i f).push x := by
  apply Array.ext_getElem?
  intro j
  simp only [Array.getElem?_modify, Array.getElem?_push, Array.size_modify]
  by_cases h : j = a.size
  · subst h
    have : i ≠ a.size := by omega
    simp [this]
  · simp [h]
theorem wd_setSt (W : World) (tT tW : TypeId) (d : Nat) (st sm tot x : Int) : (wd W tT tW d st sm tot).setCell (stA (W.heap.size + 1)) (.int .u64 x) = wd W tT tW d x sm tot := by
  have h := modify_last (W.heap.push (.cells #[.int .i64 tot] tT)) (.cells #[.int .u64 st, .int .u32 sm] tW)
  simp only [Array.size_push] at h
  simp only [World.setCell, wd, stA, h]
  simp
theorem wd_setSm (W : World) (tT tW : TypeId) (d : Nat) (st sm tot x : Int) : (wd W tT tW d st sm tot).setCell (smA (W.heap.size + 1)) (.int .u32 x) = wd W tT tW d st x tot := by
  have h := modify_last (W.heap.push (.cells #[.int .i64 tot] tT)) (.cells #[.int .u64 st, .int .u32 sm] tW)
  simp only [Array.size_push] at h
  simp only [World.setCell, wd, smA, h]
  simp
def toA (T : Nat) : Addr := ⟨T, 0, none⟩
theorem wd_setTot (W : World) (tT tW : TypeId) (d : Nat) (st sm tot x : Int) : (wd W tT tW d st sm tot).setCell (toA W.heap.size) (.int .i64 x) = wd W tT tW d st sm x := by
  have h := modify_last W.heap (.cells #[.int .i64 tot] tT)
  have h2 := fun f => modify_early (W.heap.push (.cells #[.int .i64 tot] tT)) (.cells #[.int .u64 st, .int .u32 sm] tW) f (i := W.heap.size) (by simp)
  simp only [World.setCell, wd, toA, h2, h]
  simp

section
variable (P : Program) (main : Bool) (W : World) (tT tW : TypeId)

/-- It goes silently to where S holds. -/
def To (S : Goroutine → Prop) (g : Goroutine) : Prop := ∃ n, ∀ w, Ph W tT tW w → Goes P main (RP W tT tW) DC0 (fun g _ => S g) n g w
/-- It says a word. -/
def Mk (m : Mark) (S : Goroutine → Prop) (g : Goroutine) : Prop :=
  g.status = .running ∧ ∃ g', (∀ w, Ph W tT tW w → stepG P main g w = .go g' w #[mk m]) ∧ To P main W tT tW S g'
/-- THE ATOMIC ADD OF +1. -/
def AddSt (S : Nat → Goroutine → Prop) (g : Goroutine) : Prop :=
  g.status = .running ∧ ∀ v : Nat, v ≤ 2 → ∃ g', (∀ d tot, stepG P true g (wd W tT tW d (v * KK) 0 tot) = .go g' (wd W tT tW d ((v + 1) * KK) 0 tot) #[rd (stA (W.heap.size + 1)), wr (stA (W.heap.size + 1))]) ∧ To P true W tT tW (S v) g'
/-- Add(1), then S. -/
def SAdd (S : Goroutine → Prop) : Goroutine → Prop :=
  Mk P true W tT tW .disable (AddSt P W tT tW fun v => if v = 0 then Mk P true W tT tW (.read (smA (W.heap.size + 1))) (Mk P true W tT tW .enable S) else Mk P true W tT tW .enable S)
/-- The join is seen. -/
def SKe (S : Goroutine → Prop) : Goroutine → Prop := Mk P true W tT tW .enable (Mk P true W tT tW (.acquire (stA (W.heap.size + 1))) S)
def SW4 (S : Goroutine → Prop) (g : Goroutine) : Prop :=
  g.status = .running ∧ ∃ g', (∀ d tot, stepG P true g (wd W tT tW d 0 0 tot) = .go g' (wd W tT tW d 0 0 tot) #[rd (stA (W.heap.size + 1))]) ∧ To P true W tT tW (SKe P W tT tW S) g'
def SW3 (S : Goroutine → Prop) (g : Goroutine) : Prop :=
  g.status = .running ∧ g.offers = none ∧ (∀ d st tot, stepG P true g (wd W tT tW d st 0 tot) = .go { g with status := .blocked } (wd W tT tW d st 0 tot) #[]) ∧
    ∃ g', (∀ d tot, stepG P true g (wd W tT tW d 0 1 tot) = .go g' (wd W tT tW d 0 0 tot) (semEvents (smA (W.heap.size + 1)))) ∧ To P true W tT tW (SW4 P W tT tW S) g'
def SW2 (S Back : Goroutine → Prop) (vs : Nat) (g : Goroutine) : Prop :=
  g.status = .running ∧ (∃ g', (∀ d tot, stepG P true g (wd W tT tW d (vs * KK) 0 tot) = .go g' (wd W tT tW d (vs * KK + 1) 0 tot) #[rd (stA (W.heap.size + 1)), wr (stA (W.heap.size + 1))]) ∧ To P true W tT tW (Mk P true W tT tW (.write (smA (W.heap.size + 1))) (SW3 P W tT tW S)) g') ∧
    ∀ v : Nat, v < vs → ∃ g', (∀ d tot, stepG P true g (wd W tT tW d (v * KK) 0 tot) = .go g' (wd W tT tW d (v * KK) 0 tot) #[rd (stA (W.heap.size + 1))]) ∧ To P true W tT tW Back g'
/-- The load at the loop's head, the count being b at most. -/
def SW1 (S : Goroutine → Prop) : Nat → Goroutine → Prop
  | 0, g => g.status = .running ∧ ∃ g', (∀ d tot, stepG P true g (wd W tT tW d 0 0 tot) = .go g' (wd W tT tW d 0 0 tot) #[rd (stA (W.heap.size + 1))]) ∧ To P true W tT tW (SKe P W tT tW S) g'
  | b + 1, g => g.status = .running ∧ (∃ g', (∀ d tot, stepG P true g (wd W tT tW d 0 0 tot) = .go g' (wd W tT tW d 0 0 tot) #[rd (stA (W.heap.size + 1))]) ∧ To P true W tT tW (SKe P W tT tW S) g') ∧
      ∀ v : Nat, 1 ≤ v → v ≤ 3 → ∃ g', (∀ d tot, stepG P true g (wd W tT tW d (v * KK) 0 tot) = .go g' (wd W tT tW d (v * KK) 0 tot) #[rd (stA (W.heap.size + 1))]) ∧ To P true W tT tW (SW2 P W tT tW S (SW1 S b) v) g'
/-- Wait, then S. -/
def SWait (S : Goroutine → Prop) : Goroutine → Prop := Mk P true W tT tW .disable (SW1 P W tT tW S 3)
end
end Go.Proofs.Ytlgfogllkoabpaa.SimP

/-
  The starter's walks through sync.WaitGroup's Add(1) and Wait, a stop at each visible act; at most three are counted.
-/
namespace Go.Proofs.Ytlgfogllkoabpaa.SimP
open Go.Conc Go.ConcN Go.RowKit Go.Conc.Lib Go.ConcR.Gen Go.ConcN.Gen
open Go.ConcR (KK wgBlock WgAt stA smA rd wr mk DC0)
set_option linter.unusedVariables false
set_option maxRecDepth 100000

section
variable {P : Program} {L : WgLink} {W : World} {tT : TypeId} {b₀ : Frame} {a₀ : Act} {ops₀ : Array Oper} {i₀ : Nat} {rest₀ : List Nat} {k₀ : List Item} {cs : List Frame}

set_option maxHeartbeats 8000000 in
/-- (*WaitGroup).Add(1). -/
theorem add_walk {P : Program} (H : WgLib P L) {S : Goroutine → Prop} (hT : To P true W tT L.tWg S (G (b₀.at (a₀.put ((ops₀[i₀]?).bind (·.dst)) (.tuple #[])) (.inRegion ops₀ rest₀ :: k₀)) cs)) :
    To P true W tT L.tWg (SAdd P W tT L.tWg S)
      (G ((base L.add).at ⟨#[.pointer (some ⟨W.heap.size + 1, 0, none⟩), .int .i64 1, undef, undef, undef, undef, undef, undef, undef, undef, undef, undef, undef, undef, undef, undef, undef, undef, undef, undef, undef, undef, undef, undef, undef, undef, undef, undef, undef, undef, undef, undef, undef, undef, undef, undef, undef, undef, undef, undef, undef, undef, undef, undef, undef, undef, undef, undef, undef, undef, undef, undef, undef, undef, undef, undef, undef, undef, undef, undef, undef, undef, undef, undef, undef, undef, undef, undef, undef, undef, undef, undef, undef, undef, undef, undef, undef, undef, undef, undef, undef, undef, undef, undef, undef, undef, undef, undef, undef, undef, undef, undef, undef, undef, undef, undef, undef, undef, undef, undef, undef, undef, undef, undef, undef, undef, undef, undef, undef, undef, undef, undef, undef, undef, undef, undef, undef], []⟩ [.code (body_add L)]) (b₀.at a₀ (.inRegion ops₀ (i₀ :: rest₀) :: k₀) :: cs)) := by
  lib_facts
  simp only [body_add, addFn, Option.getD_some]
  obtain ⟨mT, hT⟩ := hT
  refine ⟨12, fun w hF => ?_⟩
  u_c stepG_seq rl hF
  u_cond true rl hF
  iterate 2 (u_c stepG_seq rl hF)
  u_reg rl hF
  iterate 2 (u_op rl hF)
  u_c stepG_region_end rl hF
  u_cond false rl hF
  u_c stepG_skip rl hF
  u_c stepG_seq rl hF
  u_reg rl hF
  refine Goes.stop (fun w₁ h₁ => ?_)
  clear h₁ hF
  refine ⟨rfl, _, fun w₁ hF => stepG_mark0 .disable (by simp) rfl rfl (by k_ne) rfl H.f_disable (x_disable_n L) (x_disable_b L) (x_disable_x L) (x_disable_f L), 40, fun w hF => ?_⟩
  walk_nrm
  u_c stepG_region_end rl hF
  u_reg rl hF
  u_defer rl hF
  u_c stepG_region_end rl hF
  u_c stepG_seq rl hF
  u_reg rl hF
  u_op rl hF
  u_c stepG_region_end rl hF
  iterate 2 (u_c stepG_seq rl hF)
  u_reg rl hF
  u_bub rl hF
  u_c stepG_region_end rl hF
  u_cond false rl hF
  u_c stepG_skip rl hF
  u_c stepG_seq rl hF
  u_reg rl hF
  iterate 6 (u_op rl hF)
  u_call H.f_uAdd (nm_uAdd L) uAddFn rl hF
  u_c stepG_seq rl hF
  u_reg rl hF
  u_op rl hF
  u_c stepG_region_end rl hF
  u_c stepG_seq rl hF
  u_reg rl hF
  iterate 4 (u_op rl hF)
  refine Goes.stop (fun w₁ h₁ => ?_)
  clear h₁ hF
  refine ⟨rfl, fun v hv => ?_⟩
  obtain rfl | rfl | rfl : v = 0 ∨ v = 1 ∨ v = 2 := by omega
  · have e0 : IntKind.u64.wrap (((0 : Nat) : Int) * KK + 4294967296) = 4294967296 := by decide
    refine ⟨_, fun d tot => (stepG_add_atomic rfl rfl (by k_ne) rfl H.f_addU64 (x_addU64_n L) (x_addU64_b L) (x_addU64_x L) .u64 (x_addU64_f L) rfl rfl (wd_wg W tT L.tWg d _ _ tot).cellSt ((wd_wg W tT L.tWg d _ _ tot).thaw 0)).trans (by rw [e0, wd_setSt]; rfl), ?_⟩
    clear e0
    have b1 : bits .and .u64 4294967296 2147483648 = 0 := by decide
    have b2 : bits .and .u64 4294967296 2147483647 = 0 := by decide
    refine ⟨110, fun w hF => ?_⟩
    walk_nrm
    u_op rl hF
    u_c stepG_region_end rl hF
    u_c stepG_ret' rl hF
    u_leave1 H.f_uAdd rl hF
    u_op rl hF
    u_c stepG_region_end rl hF
    iterate 2 (u_c stepG_seq rl hF)
    u_reg rl hF
    iterate 4 (u_op rl hF)
    iterate 2 (u_skip rl hF)
    u_op rl hF
    u_c stepG_region_end rl hF
    u_cond false rl hF
    u_c stepG_skip rl hF
    u_c stepG_seq rl hF
    u_reg rl hF
    iterate 4 (u_op rl hF)
    u_c stepG_region_end rl hF
    u_c stepG_seq rl hF
    u_reg rl hF
    iterate 4 (u_op rl hF)
    u_c stepG_region_end rl hF
    iterate 2 (u_c stepG_seq rl hF)
    u_reg rl hF
    iterate 10 (u_op rl hF)
    u_c stepG_region_end rl hF
    u_cond true rl hF
    u_reg rl hF
    iterate 3 (u_op rl hF)
    u_conv H.underlying_tPU32 H.room_tU32 (ph_cell hF).choose_spec rl hF
    refine Goes.stop (fun w₁ h₁ => ?_)
    clear h₁ hF
    refine ⟨rfl, _, fun w₁ hF => stepG_markAt .read (by simp) rfl rfl (by k_ne) rfl H.f_raceRead (x_raceRead_n L) (x_raceRead_b L) (x_raceRead_x L) (x_raceRead_f L) (ad := ⟨W.heap.size + 1, 1, none⟩) (by simp [Act.eval]), 60, fun w hF => ?_⟩
    walk_nrm
    u_c stepG_region_end rl hF
    iterate 2 (u_c stepG_seq rl hF)
    u_reg rl hF
    iterate 2 (u_op rl hF)
    u_c stepG_region_end rl hF
    u_cond false rl hF
    u_c stepG_skip rl hF
    iterate 2 (u_c stepG_seq rl hF)
    u_reg rl hF
    iterate 3 (u_op rl hF)
    iterate 2 (u_skip rl hF)
    iterate 2 (u_op rl hF)
    iterate 4 (u_skip rl hF)
    u_op rl hF
    u_c stepG_region_end rl hF
    u_cond false rl hF
    u_c stepG_skip rl hF
    iterate 2 (u_c stepG_seq rl hF)
    u_reg rl hF
    iterate 3 (u_op rl hF)
    iterate 2 (u_skip rl hF)
    u_op rl hF
    u_c stepG_region_end rl hF
    u_cond true rl hF
    u_c stepG_ret' rl hF
    refine Goes.stop (fun w₁ h₁ => ?_)
    clear h₁ hF
    refine ⟨rfl, _, fun w₁ hF => stepG_unwind_entry (v := .tuple #[]) (evs := #[mk .enable]) rfl H.f_enable (x_enable_n L) (x_enable_b L) (x_enable_x L) (x_enable_f L) (by simp [Extern.Race.none_]) (by simp [mk]) (by simp [mk]), mT + 1, fun w hF => ?_⟩
    walk_nrm
    u_leave0 H.f_add rl hF
    exact hT _ hF
  · have e0 : IntKind.u64.wrap (((1 : Nat) : Int) * KK + 4294967296) = 8589934592 := by decide
    refine ⟨_, fun d tot => (stepG_add_atomic rfl rfl (by k_ne) rfl H.f_addU64 (x_addU64_n L) (x_addU64_b L) (x_addU64_x L) .u64 (x_addU64_f L) rfl rfl (wd_wg W tT L.tWg d _ _ tot).cellSt ((wd_wg W tT L.tWg d _ _ tot).thaw 0)).trans (by rw [e0, wd_setSt]; rfl), ?_⟩
    clear e0
    have b1 : bits .and .u64 8589934592 2147483648 = 0 := by decide
    have b2 : bits .and .u64 8589934592 2147483647 = 0 := by decide
    refine ⟨110, fun w hF => ?_⟩
    walk_nrm
    u_op rl hF
    u_c stepG_region_end rl hF
    u_c stepG_ret' rl hF
    u_leave1 H.f_uAdd rl hF
    u_op rl hF
    u_c stepG_region_end rl hF
    iterate 2 (u_c stepG_seq rl hF)
    u_reg rl hF
    iterate 4 (u_op rl hF)
    iterate 2 (u_skip rl hF)
    u_op rl hF
    u_c stepG_region_end rl hF
    u_cond false rl hF
    u_c stepG_skip rl hF
    u_c stepG_seq rl hF
    u_reg rl hF
    iterate 4 (u_op rl hF)
    u_c stepG_region_end rl hF
    u_c stepG_seq rl hF
    u_reg rl hF
    iterate 4 (u_op rl hF)
    u_c stepG_region_end rl hF
    iterate 2 (u_c stepG_seq rl hF)
    u_reg rl hF
    iterate 10 (u_op rl hF)
    u_c stepG_region_end rl hF
    u_cond false rl hF
    u_c stepG_skip rl hF
    iterate 2 (u_c stepG_seq rl hF)
    u_reg rl hF
    iterate 2 (u_op rl hF)
    u_c stepG_region_end rl hF
    u_cond false rl hF
    u_c stepG_skip rl hF
    iterate 2 (u_c stepG_seq rl hF)
    u_reg rl hF
    iterate 3 (u_op rl hF)
    iterate 2 (u_skip rl hF)
    iterate 2 (u_op rl hF)
    iterate 4 (u_skip rl hF)
    u_op rl hF
    u_c stepG_region_end rl hF
    u_cond false rl hF
    u_c stepG_skip rl hF
    iterate 2 (u_c stepG_seq rl hF)
    u_reg rl hF
    iterate 3 (u_op rl hF)
    iterate 2 (u_skip rl hF)
    u_op rl hF
    u_c stepG_region_end rl hF
    u_cond true rl hF
    u_c stepG_ret' rl hF
    rw [if_neg (by decide)]
    refine Goes.stop (fun w₁ h₁ => ?_)
    clear h₁ hF
    refine ⟨rfl, _, fun w₁ hF => stepG_unwind_entry (v := .tuple #[]) (evs := #[mk .enable]) rfl H.f_enable (x_enable_n L) (x_enable_b L) (x_enable_x L) (x_enable_f L) (by simp [Extern.Race.none_]) (by simp [mk]) (by simp [mk]), mT + 1, fun w hF => ?_⟩
    walk_nrm
    u_leave0 H.f_add rl hF
    exact hT _ hF
  · have e0 : IntKind.u64.wrap (((2 : Nat) : Int) * KK + 4294967296) = 12884901888 := by decide
    refine ⟨_, fun d tot => (stepG_add_atomic rfl rfl (by k_ne) rfl H.f_addU64 (x_addU64_n L) (x_addU64_b L) (x_addU64_x L) .u64 (x_addU64_f L) rfl rfl (wd_wg W tT L.tWg d _ _ tot).cellSt ((wd_wg W tT L.tWg d _ _ tot).thaw 0)).trans (by rw [e0, wd_setSt]; rfl), ?_⟩
    clear e0
    have b1 : bits .and .u64 12884901888 2147483648 = 0 := by decide
    have b2 : bits .and .u64 12884901888 2147483647 = 0 := by decide
    refine ⟨110, fun w hF => ?_⟩
    walk_nrm
    u_op rl hF
    u_c stepG_region_end rl hF
    u_c stepG_ret' rl hF
    u_leave1 H.f_uAdd rl hF
    u_op rl hF
    u_c stepG_region_end rl hF
    iterate 2 (u_c stepG_seq rl hF)
    u_reg rl hF
    iterate 4 (u_op rl hF)
    iterate 2 (u_skip rl hF)
    u_op rl hF
    u_c stepG_region_end rl hF
    u_cond false rl hF
    u_c stepG_skip rl hF
    u_c stepG_seq rl hF
    u_reg rl hF
    iterate 4 (u_op rl hF)
    u_c stepG_region_end rl hF
    u_c stepG_seq rl hF
    u_reg rl hF
    iterate 4 (u_op rl hF)
    u_c stepG_region_end rl hF
    iterate 2 (u_c stepG_seq rl hF)
    u_reg rl hF
    iterate 10 (u_op rl hF)
    u_c stepG_region_end rl hF
    u_cond false rl hF
    u_c stepG_skip rl hF
    iterate 2 (u_c stepG_seq rl hF)
    u_reg rl hF
    iterate 2 (u_op rl hF)
    u_c stepG_region_end rl hF
    u_cond false rl hF
    u_c stepG_skip rl hF
    iterate 2 (u_c stepG_seq rl hF)
    u_reg rl hF
    iterate 3 (u_op rl hF)
    iterate 2 (u_skip rl hF)
    iterate 2 (u_op rl hF)
    iterate 4 (u_skip rl hF)
    u_op rl hF
    u_c stepG_region_end rl hF
    u_cond false rl hF
    u_c stepG_skip rl hF
    iterate 2 (u_c stepG_seq rl hF)
    u_reg rl hF
    iterate 3 (u_op rl hF)
    iterate 2 (u_skip rl hF)
    u_op rl hF
    u_c stepG_region_end rl hF
    u_cond true rl hF
    u_c stepG_ret' rl hF
    rw [if_neg (by decide)]
    refine Goes.stop (fun w₁ h₁ => ?_)
    clear h₁ hF
    refine ⟨rfl, _, fun w₁ hF => stepG_unwind_entry (v := .tuple #[]) (evs := #[mk .enable]) rfl H.f_enable (x_enable_n L) (x_enable_b L) (x_enable_x L) (x_enable_f L) (by simp [Extern.Race.none_]) (by simp [mk]) (by simp [mk]), mT + 1, fun w hF => ?_⟩
    walk_nrm
    u_leave0 H.f_add rl hF
    exact hT _ hF
end
end Go.Proofs.Ytlgfogllkoabpaa.SimP

/-
  The starter's walk through sync.WaitGroup's Wait, a stop at each visible act; at most three are counted.
-/
namespace Go.Proofs.Ytlgfogllkoabpaa.SimP
open Go.Conc Go.ConcN Go.RowKit Go.Conc.Lib Go.ConcR.Gen Go.ConcN.Gen
open Go.ConcR (KK wgBlock WgAt stA smA rd wr mk DC0)
set_option linter.unusedVariables false
set_option maxRecDepth 100000

section
variable {P : Program} {L : WgLink} {W : World} {tT : TypeId} {b₀ : Frame} {a₀ : Act} {ops₀ : Array Oper} {i₀ : Nat} {rest₀ : List Nat} {k₀ : List Item} {cs : List Frame}

set_option maxHeartbeats 8000000 in
theorem wait_round0 {P : Program} (H : WgLib P L) {S : Goroutine → Prop} {mT : Nat} (hT : ∀ w, Ph W tT L.tWg w → Goes P true (RP W tT L.tWg) DC0 (fun g _ => S g) mT (G (b₀.at (a₀.put ((ops₀[i₀]?).bind (·.dst)) (.tuple #[])) (.inRegion ops₀ rest₀ :: k₀)) cs) w) :
    ∀ T : Array Value, T.size = 84 → T[0]? = some (.pointer (some ⟨W.heap.size + 1, 0, none⟩)) → ∀ w, Ph W tT L.tWg w →
      Goes P true (RP W tT L.tWg) DC0 (fun g _ => SW1 P W tT L.tWg S 0 g) 30 (G ((base L.wait).at ⟨T, []⟩ [.code (L7 L), .inLoop (L7 L), .inBlock 0]) (b₀.at a₀ (.inRegion ops₀ (i₀ :: rest₀) :: k₀) :: cs)) w := by
  intro T hT84 t0 w hF
  lib_facts
  obtain ⟨v0, v1, v2, v3, v4, v5, v6, v7, v8, v9, v10, v11, v12, v13, v14, v15, v16, v17, v18, v19, v20, v21, v22, v23, v24, v25, v26, v27, v28, v29, v30, v31, v32, v33, v34, v35, v36, v37, v38, v39, v40, v41, v42, v43, v44, v45, v46, v47, v48, v49, v50, v51, v52, v53, v54, v55, v56, v57, v58, v59, v60, v61, v62, v63, v64, v65, v66, v67, v68, v69, v70, v71, v72, v73, v74, v75, v76, v77, v78, v79, v80, v81, v82, v83, rfl⟩ := array84 T hT84
  simp only [List.getElem?_toArray, List.getElem?_cons_zero, Option.some.injEq] at t0
  subst t0
  simp only [L7, body_wait, waitFn, Option.getD_some]
  u_c stepG_block rl hF
  u_c stepG_seq rl hF
  u_reg rl hF
  iterate 3 (u_op rl hF)
  u_call H.f_uLoad (nm_uLoad L) uLoadFn rl hF
  u_c stepG_seq rl hF
  u_reg rl hF
  u_op rl hF
  u_c stepG_region_end rl hF
  u_c stepG_seq rl hF
  u_reg rl hF
  iterate 3 (u_op rl hF)
  refine Goes.stop (fun w₁ h₁ => ?_)
  clear h₁ hF
  refine ⟨rfl, ?_⟩
  refine ⟨_, fun d tot => stepG_load_atomic (v := 0) rfl rfl (by k_ne) rfl H.f_loadU64 (x_loadU64_n L) (x_loadU64_b L) (x_loadU64_x L) .u64 (x_loadU64_f L) rfl (wd_wg W tT L.tWg d _ _ tot).cellSt, 60, fun w hF => ?_⟩
  walk_nrm
  u_op rl hF
  u_c stepG_region_end rl hF
  u_c stepG_ret' rl hF
  u_leave1 H.f_uLoad rl hF
  u_op rl hF
  u_c stepG_region_end rl hF
  u_c stepG_seq rl hF
  u_reg rl hF
  iterate 4 (u_op rl hF)
  u_c stepG_region_end rl hF
  u_c stepG_seq rl hF
  u_reg rl hF
  iterate 4 (u_op rl hF)
  u_c stepG_region_end rl hF
  iterate 2 (u_c stepG_seq rl hF)
  u_reg rl hF
  iterate 2 (u_op rl hF)
  u_c stepG_region_end rl hF
  u_cond true rl hF
  u_c stepG_seq rl hF
  u_cond true rl hF
  u_c stepG_seq rl hF
  u_reg rl hF
  refine Goes.stop (fun w₁ h₁ => ?_)
  clear h₁ hF
  refine ⟨rfl, _, fun w₁ hF => stepG_mark0 .enable (by simp) rfl rfl (by k_ne) rfl H.f_enable (x_enable_n L) (x_enable_b L) (x_enable_x L) (x_enable_f L), 12, fun w hF => ?_⟩
  walk_nrm
  u_c stepG_region_end rl hF
  u_reg rl hF
  u_op rl hF
  u_conv H.underlying_tWgP H.room_tWg (ph_cell0 hF).choose_spec rl hF
  refine Goes.stop (fun w₁ h₁ => ?_)
  clear h₁ hF
  refine ⟨rfl, _, fun w₁ hF => stepG_markAt .acquire (by simp) rfl rfl (by k_ne) rfl H.f_acquire (x_acquire_n L) (x_acquire_b L) (x_acquire_x L) (x_acquire_f L) (ad := stA (W.heap.size + 1)) (by simp [Act.eval, stA]), mT + 20, fun w hF => ?_⟩
  walk_nrm
  u_c stepG_region_end rl hF
  iterate 2 (u_c stepG_seq rl hF)
  u_reg rl hF
  iterate 8 (u_op rl hF)
  iterate 2 (u_skip rl hF)
  u_op rl hF
  u_c stepG_region_end rl hF
  u_cond false rl hF
  u_c stepG_skip rl hF
  u_c stepG_ret' rl hF
  u_leave0 H.f_wait rl hF
  exact hT _ hF
set_option maxHeartbeats 8000000 in
theorem wait_roundS {P : Program} (H : WgLib P L) {S : Goroutine → Prop} {mT : Nat} (hT : ∀ w, Ph W tT L.tWg w → Goes P true (RP W tT L.tWg) DC0 (fun g _ => S g) mT (G (b₀.at (a₀.put ((ops₀[i₀]?).bind (·.dst)) (.tuple #[])) (.inRegion ops₀ rest₀ :: k₀)) cs) w)
    {k : Nat} (ih : ∀ T : Array Value, T.size = 84 → T[0]? = some (.pointer (some ⟨W.heap.size + 1, 0, none⟩)) → ∀ w, Ph W tT L.tWg w →
      Goes P true (RP W tT L.tWg) DC0 (fun g _ => SW1 P W tT L.tWg S k g) 30 (G ((base L.wait).at ⟨T, []⟩ [.code (L7 L), .inLoop (L7 L), .inBlock 0]) (b₀.at a₀ (.inRegion ops₀ (i₀ :: rest₀) :: k₀) :: cs)) w) :
    ∀ T : Array Value, T.size = 84 → T[0]? = some (.pointer (some ⟨W.heap.size + 1, 0, none⟩)) → ∀ w, Ph W tT L.tWg w →
      Goes P true (RP W tT L.tWg) DC0 (fun g _ => SW1 P W tT L.tWg S (k + 1) g) 30 (G ((base L.wait).at ⟨T, []⟩ [.code (L7 L), .inLoop (L7 L), .inBlock 0]) (b₀.at a₀ (.inRegion ops₀ (i₀ :: rest₀) :: k₀) :: cs)) w := by
  intro T hT84 t0 w hF
  lib_facts
  obtain ⟨v0, v1, v2, v3, v4, v5, v6, v7, v8, v9, v10, v11, v12, v13, v14, v15, v16, v17, v18, v19, v20, v21, v22, v23, v24, v25, v26, v27, v28, v29, v30, v31, v32, v33, v34, v35, v36, v37, v38, v39, v40, v41, v42, v43, v44, v45, v46, v47, v48, v49, v50, v51, v52, v53, v54, v55, v56, v57, v58, v59, v60, v61, v62, v63, v64, v65, v66, v67, v68, v69, v70, v71, v72, v73, v74, v75, v76, v77, v78, v79, v80, v81, v82, v83, rfl⟩ := array84 T hT84
  simp only [List.getElem?_toArray, List.getElem?_cons_zero, Option.some.injEq] at t0
  subst t0
  simp only [L7, body_wait, waitFn, Option.getD_some] at ih ⊢
  u_c stepG_block rl hF
  u_c stepG_seq rl hF
  u_reg rl hF
  iterate 3 (u_op rl hF)
  u_call H.f_uLoad (nm_uLoad L) uLoadFn rl hF
  u_c stepG_seq rl hF
  u_reg rl hF
  u_op rl hF
  u_c stepG_region_end rl hF
  u_c stepG_seq rl hF
  u_reg rl hF
  iterate 3 (u_op rl hF)
  refine Goes.stop (fun w₁ h₁ => ?_)
  clear h₁ hF
  refine ⟨rfl, ?_, fun v hv1 hv => ?_⟩
  · skip
    refine ⟨_, fun d tot => stepG_load_atomic (v := 0) rfl rfl (by k_ne) rfl H.f_loadU64 (x_loadU64_n L) (x_loadU64_b L) (x_loadU64_x L) .u64 (x_loadU64_f L) rfl (wd_wg W tT L.tWg d _ _ tot).cellSt, 60, fun w hF => ?_⟩
    walk_nrm
    u_op rl hF
    u_c stepG_region_end rl hF
    u_c stepG_ret' rl hF
    u_leave1 H.f_uLoad rl hF
    u_op rl hF
    u_c stepG_region_end rl hF
    u_c stepG_seq rl hF
    u_reg rl hF
    iterate 4 (u_op rl hF)
    u_c stepG_region_end rl hF
    u_c stepG_seq rl hF
    u_reg rl hF
    iterate 4 (u_op rl hF)
    u_c stepG_region_end rl hF
    iterate 2 (u_c stepG_seq rl hF)
    u_reg rl hF
    iterate 2 (u_op rl hF)
    u_c stepG_region_end rl hF
    u_cond true rl hF
    u_c stepG_seq rl hF
    u_cond true rl hF
    u_c stepG_seq rl hF
    u_reg rl hF
    refine Goes.stop (fun w₁ h₁ => ?_)
    clear h₁ hF
    refine ⟨rfl, _, fun w₁ hF => stepG_mark0 .enable (by simp) rfl rfl (by k_ne) rfl H.f_enable (x_enable_n L) (x_enable_b L) (x_enable_x L) (x_enable_f L), 12, fun w hF => ?_⟩
    walk_nrm
    u_c stepG_region_end rl hF
    u_reg rl hF
    u_op rl hF
    u_conv H.underlying_tWgP H.room_tWg (ph_cell0 hF).choose_spec rl hF
    refine Goes.stop (fun w₁ h₁ => ?_)
    clear h₁ hF
    refine ⟨rfl, _, fun w₁ hF => stepG_markAt .acquire (by simp) rfl rfl (by k_ne) rfl H.f_acquire (x_acquire_n L) (x_acquire_b L) (x_acquire_x L) (x_acquire_f L) (ad := stA (W.heap.size + 1)) (by simp [Act.eval, stA]), mT + 20, fun w hF => ?_⟩
    walk_nrm
    u_c stepG_region_end rl hF
    iterate 2 (u_c stepG_seq rl hF)
    u_reg rl hF
    iterate 8 (u_op rl hF)
    iterate 2 (u_skip rl hF)
    u_op rl hF
    u_c stepG_region_end rl hF
    u_cond false rl hF
    u_c stepG_skip rl hF
    u_c stepG_ret' rl hF
    u_leave0 H.f_wait rl hF
    exact hT _ hF
  · skip
    obtain ⟨S1, hS⟩ : ∃ S1 : Int, (v : Int) * KK = S1 := ⟨_, rfl⟩
    have a1 : S1 / 4294967296 = (v : Int) := by rw [← hS]; simp only [KK]; omega
    have b1 : bits .and .u64 S1 2147483648 = 0 := by rw [← hS]; have := st_flag v 0 (by omega) (by omega); simpa [KK] using this
    have b2 : bits .and .u64 S1 2147483647 = 0 := by rw [← hS]; have := st_waiters v 0 (by omega) (by omega); simpa [KK] using this
    have c1 : IntKind.i32.wrap (v : Int) = (v : Int) := by rw [IntKind.wrap_i32]; omega
    have w1 : IntKind.u64.wrap (S1 + 1) = S1 + 1 := by rw [IntKind.wrap_u64, ← hS]; simp only [KK]; omega
    have q3 : decide ((v : Int) < 0) = false := decide_eq_false (by omega)
    have q4 : decide (0 < (v : Int)) = true := decide_eq_true (by omega)
    have q5 : ((v : Int) == 0) = false := by simp; omega
    have q6 : decide ((v : Int) = 0) = false := decide_eq_false (by omega)
    have ne : ∀ x : Nat, x < v → ¬ (x : Int) * KK = S1 := fun x hx => by rw [← hS]; simp only [KK]; omega
    simp only [hS]
    refine ⟨_, fun d tot => stepG_load_atomic (v := S1) rfl rfl (by k_ne) rfl H.f_loadU64 (x_loadU64_n L) (x_loadU64_b L) (x_loadU64_x L) .u64 (x_loadU64_f L) rfl (wd_wg W tT L.tWg d _ _ tot).cellSt, 80, fun w hF => ?_⟩
    walk_nrm
    u_op rl hF
    u_c stepG_region_end rl hF
    u_c stepG_ret' rl hF
    u_leave1 H.f_uLoad rl hF
    u_op rl hF
    u_c stepG_region_end rl hF
    u_c stepG_seq rl hF
    u_reg rl hF
    iterate 4 (u_op rl hF)
    u_c stepG_region_end rl hF
    u_c stepG_seq rl hF
    u_reg rl hF
    iterate 4 (u_op rl hF)
    u_c stepG_region_end rl hF
    iterate 2 (u_c stepG_seq rl hF)
    u_reg rl hF
    iterate 2 (u_op rl hF)
    u_c stepG_region_end rl hF
    u_cnd false rl hF
    u_c stepG_skip rl hF
    u_c stepG_seq rl hF
    u_reg rl hF
    iterate 6 (u_op rl hF)
    u_call H.f_uCas (nm_uCas L) uCasFn rl hF
    u_c stepG_seq rl hF
    u_reg rl hF
    u_op rl hF
    u_c stepG_region_end rl hF
    u_c stepG_seq rl hF
    u_reg rl hF
    iterate 5 (u_op rl hF)
    refine Goes.stop (fun w₁ h₁ => ?_)
    clear h₁ hF
    simp only [SW2, hS]
    clear hS
    refine ⟨rfl, ?_, fun x hx => ?_⟩
    · refine ⟨_, fun d tot => (stepG_cas_hit (v := S1) (n := S1 + 1) rfl rfl (by k_ne) rfl H.f_casU64 (x_casU64_n L) (x_casU64_b L) (x_casU64_x L) .u64 (x_casU64_f L) rfl rfl rfl (wd_wg W tT L.tWg d _ _ tot).cellSt ((wd_wg W tT L.tWg d _ _ tot).thaw 0)).trans (by rw [wd_setSt]; rfl), 70, fun w hF => ?_⟩
      walk_nrm
      u_op rl hF
      u_c stepG_region_end rl hF
      u_c stepG_ret' rl hF
      u_leave1 H.f_uCas rl hF
      u_c stepG_region_end rl hF
      u_cond true rl hF
      iterate 2 (u_c stepG_seq rl hF)
      u_reg rl hF
      iterate 4 (u_op rl hF)
      u_c stepG_region_end rl hF
      u_cond true rl hF
      u_reg rl hF
      iterate 3 (u_op rl hF)
      u_conv H.underlying_tPU32 H.room_tU32 (ph_cell hF).choose_spec rl hF
      refine Goes.stop (fun w₁ h₁ => ?_)
      clear h₁ hF
      refine ⟨rfl, _, fun w₁ hF => stepG_markAt .write (by simp) rfl rfl (by k_ne) rfl H.f_raceWrite (x_raceWrite_n L) (x_raceWrite_b L) (x_raceWrite_x L) (x_raceWrite_f L) (ad := ⟨W.heap.size + 1, 1, none⟩) (by simp [Act.eval]), 60, fun w hF => ?_⟩
      walk_nrm
      u_c stepG_region_end rl hF
      u_c stepG_seq rl hF
      u_reg rl hF
      u_op rl hF
      u_c stepG_region_end rl hF
      iterate 2 (u_c stepG_seq rl hF)
      u_reg rl hF
      iterate 4 (u_op rl hF)
      u_skip rl hF
      u_op rl hF
      u_c stepG_region_end rl hF
      u_cond false rl hF
      u_c stepG_skip rl hF
      u_c stepG_seq rl hF
      u_reg rl hF
      iterate 4 (u_op rl hF)
      refine Goes.stop (fun w₁ h₁ => ?_)
      clear h₁ hF
      refine ⟨rfl, rfl, fun d st tot => stepG_semacquire_wait rfl rfl rfl H.f_semacquire (x_semacquire_n L) (x_semacquire_b L) (x_semacquire_x L) (x_semacquire_f L) (by simp [Act.eval, smA]) (wd_wg W tT L.tWg d st 0 tot).cellSm, _, fun d tot => (stepG_semacquire (n := 1) rfl rfl (by k_ne) rfl H.f_semacquire (x_semacquire_n L) (x_semacquire_b L) (x_semacquire_x L) (x_semacquire_f L) (by simp [Act.eval, smA]) (wd_wg W tT L.tWg d 0 1 tot).cellSm (by decide) ((wd_wg W tT L.tWg d 0 1 tot).thaw 1)).trans (by rw [wd_setSm]; rfl), 40, fun w hF => ?_⟩
      walk_nrm
      u_c stepG_region_end rl hF
      u_c stepG_seq rl hF
      u_reg rl hF
      iterate 3 (u_op rl hF)
      u_call H.f_uLoad (nm_uLoad L) uLoadFn rl hF
      u_c stepG_seq rl hF
      u_reg rl hF
      u_op rl hF
      u_c stepG_region_end rl hF
      u_c stepG_seq rl hF
      u_reg rl hF
      iterate 3 (u_op rl hF)
      refine Goes.stop (fun w₁ h₁ => ?_)
      clear h₁ hF
      refine ⟨rfl, _, fun d tot => stepG_load_atomic (v := 0) rfl rfl (by k_ne) rfl H.f_loadU64 (x_loadU64_n L) (x_loadU64_b L) (x_loadU64_x L) .u64 (x_loadU64_f L) rfl (wd_wg W tT L.tWg d _ _ tot).cellSt, 30, fun w hF => ?_⟩
      walk_nrm
      u_op rl hF
      u_c stepG_region_end rl hF
      u_c stepG_ret' rl hF
      u_leave1 H.f_uLoad rl hF
      iterate 2 (u_op rl hF)
      u_c stepG_region_end rl hF
      u_c stepG_seq rl hF
      u_cond true rl hF
      u_c stepG_seq rl hF
      u_reg rl hF
      refine Goes.stop (fun w₁ h₁ => ?_)
      clear h₁ hF
      refine ⟨rfl, _, fun w₁ hF => stepG_mark0 .enable (by simp) rfl rfl (by k_ne) rfl H.f_enable (x_enable_n L) (x_enable_b L) (x_enable_x L) (x_enable_f L), 12, fun w hF => ?_⟩
      walk_nrm
      u_c stepG_region_end rl hF
      u_reg rl hF
      u_op rl hF
      u_conv H.underlying_tWgP H.room_tWg (ph_cell0 hF).choose_spec rl hF
      refine Goes.stop (fun w₁ h₁ => ?_)
      clear h₁ hF
      refine ⟨rfl, _, fun w₁ hF => stepG_markAt .acquire (by simp) rfl rfl (by k_ne) rfl H.f_acquire (x_acquire_n L) (x_acquire_b L) (x_acquire_x L) (x_acquire_f L) (ad := stA (W.heap.size + 1)) (by simp [Act.eval, stA]), mT + 10, fun w hF => ?_⟩
      walk_nrm
      u_c stepG_region_end rl hF
      iterate 2 (u_c stepG_seq rl hF)
      u_reg rl hF
      u_op rl hF
      u_c stepG_region_end rl hF
      u_cond false rl hF
      u_c stepG_skip rl hF
      u_c stepG_ret' rl hF
      u_leave0 H.f_wait rl hF
      exact hT _ hF
    · refine ⟨_, fun d tot => stepG_cas_miss (v := (x : Int) * KK) (old := S1) (n := S1 + 1) rfl rfl (by k_ne) rfl H.f_casU64 (x_casU64_n L) (x_casU64_b L) (x_casU64_x L) .u64 (x_casU64_f L) rfl rfl rfl (wd_wg W tT L.tWg d _ _ tot).cellSt ((wd_wg W tT L.tWg d _ _ tot).thaw 0) (ne x hx), 39, fun w hF => ?_⟩
      walk_nrm
      u_op rl hF
      u_c stepG_region_end rl hF
      u_c stepG_ret' rl hF
      u_leave1 H.f_uCas rl hF
      u_c stepG_region_end rl hF
      u_cond false rl hF
      u_c stepG_skip rl hF
      u_c stepG_inBlock rl hF
      u_c stepG_inLoop rl hF
      exact ih _ (by simp) (by simp) _ hF
end
end Go.Proofs.Ytlgfogllkoabpaa.SimP

/-
  Pieces of silent walks put together; Wait from its entry.
-/
namespace Go.Proofs.Ytlgfogllkoabpaa.SimP
open Go.Conc Go.ConcN Go.RowKit Go.Conc.Lib Go.ConcR.Gen Go.ConcN.Gen
open Go.ConcR (KK wgBlock WgAt stA smA rd wr mk DC0)
set_option linter.unusedVariables false
set_option maxRecDepth 100000

theorem ph_any (W : World) (tT tW : TypeId) : Ph W tT tW (wd W tT tW 0 0 0 0) := ⟨0, 0, 0, 0, rfl⟩
section
variable {P : Program} {main : Bool} {W : World} {tT tW : TypeId} {S : Goroutine → Prop} {g1 : Goroutine}
theorem goes_then {n2 : Nat} (h2 : ∀ w, Ph W tT tW w → Goes P main (RP W tT tW) DC0 (fun g _ => S g) n2 g1 w) : ∀ (n1 : Nat) (g : Goroutine) (w : World), Ph W tT tW w → Goes P main (RP W tT tW) DC0 (fun g _ => g = g1) n1 g w → Goes P main (RP W tT tW) DC0 (fun g _ => S g) (n1 + n2) g w := by
  have more : ∀ (k n : Nat) (g : Goroutine) (w : World), Goes P main (RP W tT tW) DC0 (fun g _ => S g) n g w → Goes P main (RP W tT tW) DC0 (fun g _ => S g) (k + n) g w := by
    intro k n g w h
    induction k with
    | zero => rw [Nat.zero_add]; exact h
    | succ k ih => rw [Nat.add_right_comm]; exact ih.more
  intro n1
  induction n1 with
  | zero =>
    intro g w hw h
    have : g = g1 := h w hw
    subst this
    exact more 0 n2 g w (h2 w hw)
  | succ n1 ih =>
    intro g w hw h
    rcases h with h | ⟨hs, h⟩
    · have : g = g1 := h w hw
      subst this
      exact more _ n2 g w (h2 w hw)
    · have e : n1 + 1 + n2 = (n1 + n2) + 1 := by omega
      rw [e]
      refine .inr ⟨hs, fun w₁ h₁ => ?_⟩
      have := h w₁ h₁
      revert this
      cases stepG P main g w₁ with
      | go g' w' es =>
        rintro ⟨d, x⟩
        obtain ⟨rfl, _⟩ := id d
        exact ⟨d, ih _ _ h₁ x⟩
      | _ => exact id
theorem To.then {g : Goroutine} (h1 : ∃ n, ∀ w, Ph W tT tW w → Goes P main (RP W tT tW) DC0 (fun g _ => g = g1) n g w) (h2 : To P main W tT tW S g1) : To P main W tT tW S g := by
  obtain ⟨n1, h1⟩ := h1
  obtain ⟨n2, h2⟩ := h2
  exact ⟨n1 + n2, fun w hw => goes_then h2 n1 g w hw (h1 w hw)⟩
end

section
variable {P : Program} {L : WgLink} {W : World} {tT : TypeId} {b₀ : Frame} {a₀ : Act} {ops₀ : Array Oper} {i₀ : Nat} {rest₀ : List Nat} {k₀ : List Item} {cs : List Frame}
theorem wait_round (H : WgLib P L) {S : Goroutine → Prop} {mT : Nat} (hT : ∀ w, Ph W tT L.tWg w → Goes P true (RP W tT L.tWg) DC0 (fun g _ => S g) mT (G (b₀.at (a₀.put ((ops₀[i₀]?).bind (·.dst)) (.tuple #[])) (.inRegion ops₀ rest₀ :: k₀)) cs) w) :
    ∀ (k : Nat) (T : Array Value), T.size = 84 → T[0]? = some (.pointer (some ⟨W.heap.size + 1, 0, none⟩)) → ∀ w, Ph W tT L.tWg w →
      Goes P true (RP W tT L.tWg) DC0 (fun g _ => SW1 P W tT L.tWg S k g) 30 (G ((base L.wait).at ⟨T, []⟩ [.code (L7 L), .inLoop (L7 L), .inBlock 0]) (b₀.at a₀ (.inRegion ops₀ (i₀ :: rest₀) :: k₀) :: cs)) w
  | 0 => wait_round0 H hT
  | k + 1 => wait_roundS H hT (wait_round H hT k)

set_option maxHeartbeats 8000000 in
/-- (*WaitGroup).Wait. -/
theorem wait_walk (H : WgLib P L) {S : Goroutine → Prop} (hT : To P true W tT L.tWg S (G (b₀.at (a₀.put ((ops₀[i₀]?).bind (·.dst)) (.tuple #[])) (.inRegion ops₀ rest₀ :: k₀)) cs)) :
    To P true W tT L.tWg (SWait P W tT L.tWg S)
      (G ((base L.wait).at ⟨#[.pointer (some ⟨W.heap.size + 1, 0, none⟩), undef, undef, undef, undef, undef, undef, undef, undef, undef, undef, undef, undef, undef, undef, undef, undef, undef, undef, undef, undef, undef, undef, undef, undef, undef, undef, undef, undef, undef, undef, undef, undef, undef, undef, undef, undef, undef, undef, undef, undef, undef, undef, undef, undef, undef, undef, undef, undef, undef, undef, undef, undef, undef, undef, undef, undef, undef, undef, undef, undef, undef, undef, undef, undef, undef, undef, undef, undef, undef, undef, undef, undef, undef, undef, undef, undef, undef, undef, undef, undef, undef, undef, undef], []⟩ [.code (body_wait L)]) (b₀.at a₀ (.inRegion ops₀ (i₀ :: rest₀) :: k₀) :: cs)) := by
  obtain ⟨mT, hT⟩ := hT
  have hr := fun T h1 h2 w hw => wait_round H hT 3 T h1 h2 w hw
  lib_facts
  simp only [L7, body_wait, waitFn, Option.getD_some] at hr ⊢
  refine ⟨12, fun w hF => ?_⟩
  u_c stepG_seq rl hF
  u_cond true rl hF
  u_reg rl hF
  refine Goes.stop (fun w₁ h₁ => ?_)
  clear h₁ hF
  refine ⟨rfl, _, fun w₁ hF => stepG_mark0 .disable (by simp) rfl rfl (by k_ne) rfl H.f_disable (x_disable_n L) (x_disable_b L) (x_disable_x L) (x_disable_f L), 33, fun w hF => ?_⟩
  walk_nrm
  u_c stepG_region_end rl hF
  u_c stepG_block rl hF
  u_c stepG_loop rl hF
  exact hr _ (by simp) (by simp) _ hF
end
end Go.Proofs.Ytlgfogllkoabpaa.SimP

/-
  A worker's release: from Done's entry to the word 'release and merge', walked here; what stands behind it, by the library's walk through Done.
-/
namespace Go.Proofs.Ytlgfogllkoabpaa.SimP
open Go.Conc Go.ConcN Go.RowKit Go.Conc.Lib Go.ConcR.Gen Go.ConcN.Gen
open Go.ConcR (KK wgBlock WgAt stA smA rd wr mk DC0 Payload)
set_option linter.unusedVariables false
set_option maxRecDepth 100000

section
variable [Payload]
/-- What the library's walk of a worker behind its release leans on. -/
abbrev RWk (L : WgLink) (W : World) (w w₁ : World) : Prop := RW L.tWg (W.heap.size + 1) (W.heap.size + 1) 2 0 1 w w₁
abbrev AtR (P : Program) (L : WgLink) (W : World) : Goroutine → World → Prop := AtR0 P L.tWg (W.heap.size + 1) (W.heap.size + 1) 2 0 2 (.int .u32 0)
abbrev AtK (P : Program) (L : WgLink) (W : World) : Goroutine → World → Prop := AtK1 P L.tWg (W.heap.size + 1) (W.heap.size + 1) 2 0 2
abbrev DWk (W : World) : World → World → Array Event → Prop := DWs (W.heap.size + 1) (fun _ _ => False) (fun _ _ => False) (W.heap.size + 1) 2 2

section
variable {P : Program} {L : WgLink} {W : World} {tT tW : TypeId}

theorem atR_event {g g' : Goroutine} {w w' : World} {es : Array Event} (h : AtR P L W g w) (hs : stepG P false g w = .go g' w' es) : es = #[mk (.releaseMerge (stA (W.heap.size + 1)))] := by
  obtain ⟨_, _, g2, h2, _⟩ := h
  rw [hs] at h2
  simp only [GStep.go.injEq] at h2
  exact h2.2.2

/-- Two walks of one goroutine: where the silent one comes to, the other one goes on. -/
theorem comb {g1 : Goroutine} : ∀ (n1 n2 : Nat) (g : Goroutine) (w : World), Ph W tT tW w → Goes P false (RP W tT tW) DC0 (fun g _ => g = g1) n1 g w → Goes P false (RWk L W) (DWk W) (AtR P L W) n2 g w → ∃ n3, Goes P false (RWk L W) (DWk W) (AtR P L W) n3 g1 w := by
  intro n1
  induction n1 with
  | zero =>
    intro n2 g w hw h1 h2
    have : g = g1 := h1 w hw
    exact ⟨n2, this ▸ h2⟩
  | succ n1 ih =>
    intro n2 g w hw h1 h2
    rcases h1 with h1 | ⟨hs, h1⟩
    · have : g = g1 := h1 w hw
      exact ⟨n2, this ▸ h2⟩
    · have k1 := h1 w hw
      clear h1
      cases hst : stepG P false g w with
      | go g' w' es =>
        rw [hst] at k1
        obtain ⟨⟨rfl, rfl⟩, k1⟩ := k1
        have no : ¬ AtR P L W g w' := fun h => by
          have := atR_event h hst
          simp at this
        cases n2 with
        | zero => exact absurd (h2 w' (RW.refl w')) no
        | succ n2 =>
          rcases h2 with h2 | ⟨_, h2⟩
          · exact absurd (h2 w' (RW.refl w')) no
          · have k2 := h2 w' (RW.refl w')
            rw [hst] at k2
            exact ih n2 g' w' hw k1 k2.2
      | _ => rw [hst] at k1; exact k1.elim

/-- .. through the release. -/
theorem comb_release {gR gS gL : Goroutine} {w : World} {n2 n3 : Nat} (hw : Ph W tT tW w)
    (hR : stepG P false gR w = .go gS w #[mk (.releaseMerge (stA (W.heap.size + 1)))]) (h2 : Goes P false (RP W tT tW) DC0 (fun g _ => g = gL) n2 gS w) (hL : ∃ g', stepG P false gL w = .go g' w #[mk .disable])
    (h : Goes P false (RWk L W) (DWk W) (AtR P L W) n3 gR w) : ∃ m, Goes P false (RWk L W) DC0 (AtK P L W) m gS w := by
  have fin : AtR P L W gR w → ∃ m, Goes P false (RWk L W) DC0 (AtK P L W) m gS w := by
    rintro ⟨_, _, g2, e, m, hg⟩
    rw [hR] at e
    simp only [GStep.go.injEq] at e
    obtain ⟨rfl, _, _⟩ := e
    exact ⟨m, hg⟩
  cases n3 with
  | zero => exact fin (h w (RW.refl w))
  | succ n3 =>
    rcases h with h | ⟨_, h⟩
    · exact fin (h w (RW.refl w))
    · have k := h w (RW.refl w)
      rw [hR] at k
      obtain ⟨n4, h4⟩ := comb n2 n3 gS w hw h2 k.2
      obtain ⟨g', hL⟩ := hL
      have no : ¬ AtR P L W gL w := fun h => by
        have := atR_event h hL
        simp [mk] at this
      cases n4 with
      | zero => exact absurd (h4 w (RW.refl w)) no
      | succ n4 =>
        rcases h4 with h4 | ⟨_, h4⟩
        · exact absurd (h4 w (RW.refl w)) no
        · have k4 := h4 w (RW.refl w)
          rw [hL] at k4
          exact absurd rfl (k4.1.2 (mk .disable) (by simp)).2.1
end

section
variable {P : Program} {L : WgLink} {W : World} {tT : TypeId}
/-- THE RELEASE. -/
def WRel (P : Program) (L : WgLink) (W : World) (tT : TypeId) (g : Goroutine) : Prop :=
  g.status = .running ∧ ∃ g', (∀ w, Ph W tT L.tWg w → stepG P false g w = .go g' w #[mk (.releaseMerge (stA (W.heap.size + 1)))]) ∧
    ∀ d st tot, ∃ m, Goes P false (RWk L W) DC0 (AtK P L W) m g' (wd W tT L.tWg d st 0 tot)

omit [Payload] in
set_option maxHeartbeats 8000000 in
theorem done_pre (H : WgLib P L) {c : Frame} {cs : List Frame} : ∃ gR gS gL,
    (∃ n, ∀ w, Ph W tT L.tWg w → Goes P false (RP W tT L.tWg) DC0 (fun g _ => g = gR) n (G ((baseD L.done).at ⟨#[.pointer (some ⟨W.heap.size + 1, 0, none⟩), undef, undef, undef], []⟩ [.code (body_done L)]) (c :: cs)) w) ∧ gR.status = .running ∧
    (∀ w, Ph W tT L.tWg w → stepG P false gR w = .go gS w #[mk (.releaseMerge (stA (W.heap.size + 1)))]) ∧
    (∃ n, ∀ w, Ph W tT L.tWg w → Goes P false (RP W tT L.tWg) DC0 (fun g _ => g = gL) n gS w) ∧ (∀ w, Ph W tT L.tWg w → ∃ g', stepG P false gL w = .go g' w #[mk .disable]) := by
  lib_facts
  simp only [body_done, doneFn, Option.getD_some]
  apply Exists.intro
  apply Exists.intro
  apply Exists.intro
  refine ⟨⟨30, fun w hF => ?_⟩, ?_, ?_, ⟨30, ?_⟩, ?_⟩
  · skip
    u_reg rl hF
    u_op rl hF
    u_call H.f_add (nm_add L) addFn rl hF
    u_c stepG_seq rl hF
    u_cond true rl hF
    iterate 2 (u_c stepG_seq rl hF)
    u_reg rl hF
    iterate 2 (u_op rl hF)
    u_c stepG_region_end rl hF
    u_cond true rl hF
    u_reg rl hF
    u_op rl hF
    u_conv H.underlying_tWgP H.room_tWg (ph_cell0 hF).choose_spec rl hF
    exact Goes.stop fun _ _ => rfl
  · rfl
  · exact fun w hF => stepG_markAt .releaseMerge (by simp) rfl rfl (by k_ne) rfl H.f_relMerge (x_relMerge_n L) (x_relMerge_b L) (x_relMerge_x L) (x_relMerge_f L) (ad := stA (W.heap.size + 1)) (by simp [Act.eval, stA])
  · intro w hF
    walk_nrm
    u_c stepG_region_end rl hF
    u_c stepG_seq rl hF
    u_reg rl hF
    exact Goes.stop fun _ _ => rfl
  · exact fun w hF => ⟨_, stepG_mark0 .disable (by simp) rfl rfl (by k_ne) rfl H.f_disable (x_disable_n L) (x_disable_b L) (x_disable_x L) (x_disable_f L)⟩

theorem done_walk (H : WgLib P L) {c : Frame} {cs : List Frame} {qt : Nat} (hcm : c.mode = .returning) (hT : QuitsD P qt 0 (G c cs)) :
    To P false W tT L.tWg (WRel P L W tT) (G ((baseD L.done).at ⟨#[.pointer (some ⟨W.heap.size + 1, 0, none⟩), undef, undef, undef], []⟩ [.code (body_done L)]) (c :: cs)) := by
  obtain ⟨gR, gS, gL, ⟨n1, h1⟩, hrun, h2, ⟨n3, h3⟩, h4⟩ := done_pre (W := W) (tT := tT) H (c := c) (cs := cs)
  refine To.then ⟨n1, h1⟩ ⟨0, fun w hw w₁ hw₁ => ⟨hrun, gS, h2, fun d st tot => ?_⟩⟩
  have hp : Ph W tT L.tWg (wd W tT L.tWg d st 0 tot) := ⟨d, st, 0, tot, rfl⟩
  have hD := doneN (k := 2) (C := W.heap.size + 1) (n := 2) (Low := 0) (val := .int .u32 0) (Wg := W.heap.size + 1) (Own := fun _ _ => False) (Rd := fun _ _ => False) H hcm hT (wd W tT L.tWg d st 0 tot)
    ⟨⟨st, 0, wd_wg W tT L.tWg d st 0 tot⟩, (wd_wg W tT L.tWg d st 0 tot).cellSm⟩
  obtain ⟨n5, h5⟩ := comb n1 _ _ _ hp (h1 _ hp) hD
  exact comb_release hp (h2 _ hp) (h3 _ hp) (h4 _ hp) h5
end
end
end Go.Proofs.Ytlgfogllkoabpaa.SimP

/-
  A worker's walk through bpdu's sumOfShare.
-/
namespace Go.Proofs.Ytlgfogllkoabpaa.SimP
open Go.Conc Go.ConcN Go.RowKit Go.Conc.Lib Go.ConcR.Gen Go.ConcN.Gen
open Go.ConcR (KK wgBlock WgAt stA smA rd wr mk DC0)
set_option linter.unusedVariables false
set_option maxRecDepth 100000

/-- The sum of the first i bytes. -/
def psum (b : ByteArray) (i : Nat) : Int := ((b.data.toList.take i).map fun x => (x.toNat : Int)).sum
theorem psum_zero (b : ByteArray) : psum b 0 = 0 := rfl
theorem psum_succ {b : ByteArray} {i : Nat} {x : UInt8} (h : b[i]? = some x) : psum b (i + 1) = psum b i + x.toNat := by
  have h' : b.data.toList[i]? = some x := by
    have hi : i < b.size := by
      rcases Nat.lt_or_ge i b.size with h1 | h1
      · exact h1
      · rw [getElem?_neg b i (by omega)] at h; exact absurd h (by simp)
    rw [getElem?_pos b i hi] at h
    have hd : i < b.data.toList.length := by simpa using hi
    rw [List.getElem?_eq_getElem hd]
    have hx : b[i] = x := by simpa using h
    rw [← hx]
    simp
    rfl
  unfold psum
  rw [List.take_add_one, h']
  simp
theorem psum_bound (b : ByteArray) (i : Nat) : 0 ≤ psum b i ∧ psum b i ≤ 255 * i := by
  induction i with
  | zero => simp [psum_zero]
  | succ i ih =>
    cases h : b[i]? with
    | some x =>
      rw [psum_succ h]
      have := x.toNat_lt
      omega
    | none =>
      have h' : b.data.toList.length ≤ i := by
        rcases Nat.lt_or_ge i b.size with h1 | h1
        · rw [getElem?_pos b i h1] at h; exact absurd h (by simp)
        · simpa using h1
      have e : psum b (i + 1) = psum b i := by
        unfold psum
        rw [List.take_of_length_le (by omega), List.take_of_length_le h']
      rw [e]; omega

theorem ev_index (b : ByteArray) (i : Nat) (h : i < b.size) (w : World) (es : Array Event) : Sem.events Try.prog (Instr.index 9 (.string b) (.int .i64 (i : Int))) w es = es := by
  simp [go_sem, Instr.index, h]

section
variable {W : World} {tT tW : TypeId} {b₀ : Frame} {a₀ : Act} {ops₀ : Array Oper} {i₀ : Nat} {rest₀ : List Nat} {k₀ : List Item} {cs : List Frame}

noncomputable def bodySh : Code := Try.f34.body.getD .skip
noncomputable def LSh : Code := match bodySh with | .seq _ (.seq _ (.seq (.seq _ (.block _ (.loop c))) _)) => c | _ => .skip
noncomputable def RSh : Code := match bodySh with | .seq _ (.seq _ (.seq _ c)) => c | _ => .skip

set_option maxHeartbeats 8000000 in
theorem share_loop (b : ByteArray) (hb : b.size ≤ 4) : ∀ (r i : Nat), i + r = b.size → ∀ (v1 v2 v4 v5 v8 v9 v10 v11 v12 v13 v14 v15 v16 v17 : Value) (w : World), Ph W tT tW w →
    Goes Try.prog false (RP W tT tW) DC0 (fun g _ => g = G (b₀.at (a₀.put ((ops₀[i₀]?).bind (·.dst)) (.int .i64 (psum b b.size))) (.inRegion ops₀ rest₀ :: k₀)) cs) (29 * r + 14)
      (G ((base 34).at ⟨#[.string b, v1, v2, .int .i64 (psum b i), v4, v5, .int .i64 b.size, .int .i64 i, v8, v9, v10, v11, v12, v13, v14, v15, v16, v17], []⟩ [.code LSh, .inLoop LSh, .inBlock 0, .code RSh]) (b₀.at a₀ (.inRegion ops₀ (i₀ :: rest₀) :: k₀) :: cs)) w := by
  intro r
  induction r with
  | zero =>
    intro i hi v1 v2 v4 v5 v8 v9 v10 v11 v12 v13 v14 v15 v16 v17 w hF
    obtain rfl : i = b.size := by omega
    simp only [LSh, RSh, bodySh, Try.f34, Option.getD_some]
    have q1 : decide ((b.size : Int) < (b.size : Int)) = false := decide_eq_false (by omega)
    u_c stepG_seq rl hF
    u_reg rl hF
    u_op rl hF
    u_c stepG_region_end rl hF
    u_c stepG_seq rl hF
    u_cond false rl hF
    u_exit rl hF
    u_c stepG_seq rl hF
    u_reg rl hF
    iterate 2 (u_op rl hF)
    u_c stepG_region_end rl hF
    u_c stepG_ret' rl hF
    u_leave1 Try.func34 rl hF
    exact Goes.stop fun _ _ => rfl
  | succ r ih =>
    intro i hi v1 v2 v4 v5 v8 v9 v10 v11 v12 v13 v14 v15 v16 v17 w hF
    have hlt : i < b.size := by omega
    obtain ⟨x, hx⟩ : ∃ x, b[i] = x := ⟨b[i], rfl⟩
    have hps := psum_succ (show b[i]? = some x by rw [getElem?_pos b i hlt, hx])
    have hev := ev_index b i hlt
    have hbd := psum_bound b i
    have hx255 := x.toNat_lt
    have hih := ih (i + 1) (by omega)
    rw [hps] at hih
    have ei : ((i + 1 : Nat) : Int) = (i : Int) + 1 := by omega
    rw [ei] at hih
    have q1 : decide ((i : Int) < (b.size : Int)) = true := decide_eq_true (by omega)
    have q2 : (0 : Int) ≤ (i : Int) := by omega
    have q3 : ((i : Int)).toNat = i := by omega
    have q4 : IntKind.i64.wrap ((x.toNat : Nat) : Int) = (x.toNat : Int) := by rw [IntKind.wrap_i64]; omega
    have q5 : IntKind.i64.wrap (psum b i + (x.toNat : Int)) = psum b i + (x.toNat : Int) := by rw [IntKind.wrap_i64]; omega
    have q6 : IntKind.i64.wrap ((i : Int) + 1) = (i : Int) + 1 := by rw [IntKind.wrap_i64]; omega
    have e29 : 29 * (r + 1) + 14 = (29 * r + 14) + 29 := by omega
    rw [e29]
    clear ih hps hbd hx255 ei e29 hi
    simp only [LSh, RSh, bodySh, Try.f34, Option.getD_some] at hih ⊢
    have HIH := Lib.hid hih; clear hih
    u_c stepG_seq rl hF
    u_reg rl hF
    u_op rl hF
    u_c stepG_region_end rl hF
    u_c stepG_seq rl hF
    u_cond true rl hF
    u_c stepG_skip rl hF
    u_c stepG_seq rl hF
    u_c stepG_block rl hF
    u_c stepG_seq rl hF
    u_reg rl hF
    iterate 2 (u_op rl hF)
    u_c stepG_region_end rl hF
    u_reg rl hF
    iterate 3 (u_op rl hF)
    u_in rl hF
    refine goes_oper_k rfl rfl (by k_ne) (fun K hK => ?_)
    go_simp
    refine hK _ _ ⟨?_, ?_⟩
    · u_none
      intro e he
      have hm := mem_listed he
      simp [go_sem] at hm
      rw [hev] at hm
      simp at hm
    clear hK K
    try rw [hx]
    iterate 3 (u_op rl hF)
    u_c stepG_region_end rl hF
    u_c stepG_inBlock rl hF
    u_reg rl hF
    iterate 2 (u_op rl hF)
    u_c stepG_region_end rl hF
    u_c stepG_inLoop rl hF
    exact HIH.out _ _ _ _ _ _ _ _ _ _ _ _ _ _ _ hF
end
end Go.Proofs.Ytlgfogllkoabpaa.SimP

/-
  A worker, from its birth to its release.
-/
namespace Go.Proofs.Ytlgfogllkoabpaa.SimP
open Go.Conc Go.ConcN Go.RowKit Go.Conc.Lib Go.ConcR.Gen Go.ConcN.Gen
open Go.ConcR (KK wgBlock WgAt stA smA rd wr mk DC0 Payload)
set_option linter.unusedVariables false
set_option maxRecDepth 100000

theorem ev_len (b : ByteArray) (w : World) (es : Array Event) : Sem.events Try.prog (Builtin.len_ #[9] 3 #[.string b]) w es = es := by
  simp [go_sem, Builtin.len_]

section
variable {W : World} {tT tW : TypeId} {b₀ : Frame} {a₀ : Act} {ops₀ : Array Oper} {i₀ : Nat} {rest₀ : List Nat} {k₀ : List Item} {cs : List Frame}

set_option maxHeartbeats 8000000 in
theorem share_walk (b : ByteArray) (hb : b.size ≤ 4) (w : World) (hF : Ph W tT tW w) :
    Goes Try.prog false (RP W tT tW) DC0 (fun g _ => g = G (b₀.at (a₀.put ((ops₀[i₀]?).bind (·.dst)) (.int .i64 (psum b b.size))) (.inRegion ops₀ rest₀ :: k₀)) cs) (29 * b.size + 14 + 17)
      (G ((base 34).at ⟨#[.string b, undef, undef, undef, undef, undef, undef, undef, undef, undef, undef, undef, undef, undef, undef, undef, undef, undef], []⟩ [.code bodySh]) (b₀.at a₀ (.inRegion ops₀ (i₀ :: rest₀) :: k₀) :: cs)) w := by
  have hL := share_loop (W := W) (tT := tT) (tW := tW) (b₀ := b₀) (a₀ := a₀) (ops₀ := ops₀) (i₀ := i₀) (rest₀ := rest₀) (k₀ := k₀) (cs := cs) b hb b.size 0 (by omega)
  simp only [LSh, RSh, bodySh, Try.f34, Option.getD_some, psum_zero] at hL ⊢
  have HL := Lib.hid hL; clear hL
  u_c stepG_seq rl hF
  u_reg rl hF
  u_op rl hF
  u_c stepG_region_end rl hF
  u_c stepG_seq rl hF
  u_reg rl hF
  u_op rl hF
  u_c stepG_region_end rl hF
  iterate 2 (u_c stepG_seq rl hF)
  u_reg rl hF
  u_op rl hF
  u_in rl hF
  refine goes_oper_k rfl rfl (by k_ne) (fun K hK => ?_)
  go_simp
  refine hK _ _ ⟨?_, ?_⟩
  · u_none
    intro e he
    have hm := mem_listed he
    simp [go_sem] at hm
    rw [ev_len] at hm
    simp at hm
  clear hK K
  u_op rl hF
  u_c stepG_region_end rl hF
  u_c stepG_block rl hF
  u_c stepG_loop rl hF
  exact HL.out _ _ _ _ _ _ _ _ _ _ _ _ _ _ _ hF
end

noncomputable def bot : Frame := { (default : Frame) with fn := Try.prog.funcs.size, defers := [], mode := .panicking [goexitEntry] }
noncomputable def bodyWk : Code := Try.f31.body.getD .skip
def bW : Frame := baseD 31
/-- The call that a go statement makes. -/
def dW (W : World) (b : ByteArray) : Deferred := { target := .fn (.func 31) #[.pointer (some ⟨W.heap.size + 1, 0, none⟩), .pointer (some ⟨W.heap.size, 0, none⟩)], args := #[.string b] }
theorem quitsTail (T : Array Value) : QuitsD Try.prog 2 0 (G { bW.at ⟨T, []⟩ [] with mode := .returning } [bot]) := by
  refine QuitsD.ctl (g' := G bot []) rfl (fun w => ?_) ?_
  · simp [G, stepG, unwind, doReturn, results, Frame.at, bW, baseD, bot, Try.func31, Try.f31, seen, GStep.after, goexitEntry]
  refine QuitsD.ctl (g' := { G bot [] with status := .finished }) rfl (fun w => ?_) ⟨rfl, rfl⟩
  simp [G, stepG, unwind, bot, goexitEntry, Frame.catches]
  rfl

section
variable {W : World} {tT : TypeId}
theorem born_step (b : ByteArray) (w : World) : stepG Try.prog false (born Try.prog (dW W b)) w =
    .go (G (bW.at ⟨#[.string b, .pointer (some ⟨W.heap.size + 1, 0, none⟩), .pointer (some ⟨W.heap.size, 0, none⟩), undef, undef, undef, undef], []⟩ [.code bodyWk]) [bot]) w #[] := by
  simp [born, dW, stepG, unwind, callDeferred, invoke, callFunc, Try.func31, Try.f31, seen, GStep.after, G, Frame.enter, Frame.at, bW, baseD, bot, bodyWk]

section
variable [Payload]
/-- THE ATOMIC ADD OF A WORKER's SHARE. -/
def WT (W : World) (tT : TypeId) (x : Int) (g : Goroutine) : Prop :=
  g.status = .running ∧ ∀ tot, ∃ g', (∀ d st sm, stepG Try.prog false g (wd W tT lk.tWg d st sm tot) = .go g' (wd W tT lk.tWg d st sm (IntKind.i64.wrap (tot + x))) #[rd (toA W.heap.size), wr (toA W.heap.size)]) ∧ To Try.prog false W tT lk.tWg (WRel Try.prog lk W tT) g'
end

theorem cell_tot {W : World} {tT tW : TypeId} (d : Nat) (st sm tot : Int) : (wd W tT tW d st sm tot).cell? (toA W.heap.size) = some (.int .i64 tot) := by
  have h := wd_tot W tT tW d st sm tot
  simp only [World.cell?, toA, h]
  rfl
theorem thaw_tot {W : World} {tT tW : TypeId} (d : Nat) (st sm tot : Int) : (wd W tT tW d st sm tot).frozen? (toA W.heap.size) = false := by
  have h := wd_tot W tT tW d st sm tot
  simp only [World.frozen?, toA, h]
  rfl

section
variable [Payload]
set_option maxHeartbeats 8000000 in
theorem worker_walk (b : ByteArray) (hb : b.size ≤ 4) : To Try.prog false W tT lk.tWg (WT W tT (psum b b.size)) (born Try.prog (dW W b)) := by
  refine ⟨29 * b.size + 14 + 17 + 30 + 8, fun w hF => Goes.step rfl fun w₁ h₁ => ?_⟩
  rw [born_step]
  refine ⟨by u_nil, ?_⟩
  replace hF := rl hF h₁
  clear h₁
  simp only [bodyWk, Try.f31, Option.getD_some]
  u_c stepG_seq rl hF
  u_reg rl hF
  u_defer rl hF
  u_c stepG_region_end rl hF
  u_reg rl hF
  u_op rl hF
  u_call Try.func34 (by rfl) Try.f34 rl hF
  refine goes_then (n2 := 30) (fun w hF => ?_) _ _ _ hF (share_walk b hb _ hF)
  walk_nrm
  u_call Try.func33 (by rfl) Try.f33 rl hF
  u_c stepG_seq rl hF
  u_reg rl hF
  u_op rl hF
  u_c stepG_region_end rl hF
  u_c stepG_seq rl hF
  u_reg rl hF
  iterate 4 (u_op rl hF)
  refine Goes.stop (fun w₁ h₁ => ?_)
  clear h₁ hF
  refine ⟨rfl, fun tot => ⟨_, fun d st sm => (stepG_add_atomic rfl rfl (by k_ne) rfl Try.func63 (by rfl) (by rfl) (by rfl) .i64 (by rfl) rfl rfl (cell_tot d st sm tot) (thaw_tot d st sm tot)).trans (by rw [wd_setTot]; rfl), ?_⟩⟩
  obtain ⟨mD, hD⟩ := done_walk (W := W) (tT := tT) (c := { bW.at ⟨#[.string b, .pointer (some ⟨W.heap.size + 1, 0, none⟩), .pointer (some ⟨W.heap.size, 0, none⟩), undef, .string b, .int .i64 (psum b b.size), .int .i64 (IntKind.i64.wrap (tot + psum b b.size))], []⟩ [] with mode := .returning }) (cs := [bot]) wgLib rfl (quitsTail _)
  have HD := Lib.hid hD; clear hD
  refine ⟨mD + 7, fun w hF => ?_⟩
  walk_nrm
  u_op rl hF
  u_c stepG_region_end rl hF
  u_c stepG_ret' rl hF
  u_leave1 Try.func33 rl hF
  u_c stepG_region_end rl hF
  u_c stepG_end rl hF
  u_unwB rl hF (wgLib.f_done) (nm_done lk) doneFn
  exact HD.out _ hF
end
end
end Go.Proofs.Ytlgfogllkoabpaa.SimP

/-
  The starter: its loop, its wait, what it reads at the end.
-/
namespace Go.Proofs.Ytlgfogllkoabpaa.SimP
open Go.Conc Go.ConcN Go.RowKit Go.Conc.Lib Go.ConcR.Gen Go.ConcN.Gen
open Go.ConcR (KK wgBlock WgAt stA smA rd wr mk DC0 Payload)
set_option linter.unusedVariables false
set_option maxRecDepth 100000

noncomputable def bodySu : Code := Try.f18.body.getD .skip
noncomputable def LSu : Code := match bodySu with | .seq _ (.seq _ (.seq _ (.seq (.seq _ (.block _ (.loop c))) _))) => c | _ => .skip
noncomputable def RSu : Code := match bodySu with | .seq _ (.seq _ (.seq _ (.seq _ c))) => c | _ => .skip

section
variable (W : World) (tT : TypeId)
/-- A share is given to a new worker. -/
def SGo (b : ByteArray) (S : Goroutine → Prop) (g : Goroutine) : Prop :=
  g.status = .running ∧ ∃ g', (∀ w, Ph W tT lk.tWg w → stepG Try.prog true g w = .spawn g' (born Try.prog (dW W b)) w #[]) ∧ To Try.prog true W tT lk.tWg S g'
/-- The number is read. -/
def SL (R : Int → Goroutine → Prop) (g : Goroutine) : Prop :=
  g.status = .running ∧ ∀ tot, ∃ g', (∀ d st sm, stepG Try.prog true g (wd W tT lk.tWg d st sm tot) = .go g' (wd W tT lk.tWg d st sm tot) #[rd (toA W.heap.size)]) ∧ To Try.prog true W tT lk.tWg (R tot) g'
def share (b : ByteArray) (i : Nat) : ByteArray := b.extract i (min (i + 4) b.size)
def SRun (b : ByteArray) (R : Int → Goroutine → Prop) : Nat → Nat → Goroutine → Prop
  | 0, _ => SWait Try.prog W tT lk.tWg (SL W tT R)
  | r + 1, i => SAdd Try.prog W tT lk.tWg (SGo W tT (share b i) (SRun b R r (i + 4)))
end

theorem ev_mf (f : Fn) (a c : Array Value) (w : World) (es : Array Event) : Sem.events Try.prog (Instr.makeFunc f a c) w es = es := rfl
theorem ev_min (x y : Int) (w : World) (es : Array Event) : Sem.events Try.prog (Builtin.min_ #[3, 3] 3 #[.int .i64 x, .int .i64 y]) w es = es := by
  simp [go_sem, Builtin.min_, Builtin.min2]

theorem run_sl (b : ByteArray) (i m : Nat) (h1 : i ≤ m) (h2 : m ≤ b.size) (w : World) : (Instr.sliceAt 9 (.string b) (some (.int .i64 (i : Int))) (some (.int .i64 (m : Int))) none).run Try.prog w = .ok (.string (b.extract i m)) w := by
  simp [go_sem, Instr.sliceAt, Instr.slice, Instr.sliceBounds, Instr.sliceBound, h1, h2]
theorem ev_sl (b : ByteArray) (i m : Nat) (h1 : i ≤ m) (h2 : m ≤ b.size) (w : World) (es : Array Event) : Sem.events Try.prog (Instr.sliceAt 9 (.string b) (some (.int .i64 (i : Int))) (some (.int .i64 (m : Int))) none) w es = es := by
  simp [go_sem, Instr.sliceAt, Instr.slice, Instr.sliceBounds, Instr.sliceBound, h1, h2]

section
variable {W : World} {tT : TypeId} {fr : Frame} {cs : List Frame}
/-- What the caller has in the end. -/
def Rt (fr : Frame) (cs : List Frame) (tot : Int) (g : Goroutine) : Prop := g = G (fr.finish (.int .i64 tot)) cs
theorem goes_leaveF {P : Program} {main : Bool} {b : Frame} {a : Act} {todo : List Item} {fn : Func} {w : World} {K : Goroutine → World → Array Event → Prop} {t : Tmp} (hn : b.kind = .normal) (hd : a.defers = []) (hf : P.funcs[b.fn]? = some fn) (hr : fn.results = #[.tmp t])
    (h : K (G (fr.finish (a.tmps.getD t undef)) cs) w #[]) : (stepG P main (G { b.at a todo with mode := .returning } (fr :: cs)) w).goes K := by
  rw [stepG_leave hn hd hf (results_tmp hr _ P w) (events_results_tmp hr _ _)]; exact h

set_option maxHeartbeats 8000000 in
theorem start_loop (b : ByteArray) (hb : b.size ≤ 12) : ∀ (r i : Nat), b.size ≤ i + 4 * r → (0 < r → i + 4 * (r - 1) < b.size) → ∀ (v1 v6 v7 v8 v9 v10 v11 v12 v13 v14 v15 v16 v17 v18 v19 v20 v21 v22 v23 : Value),
    To Try.prog true W tT lk.tWg (SRun W tT b (Rt fr cs) r i)
      (G ((base 18).at ⟨#[.string b, v1, .int .i64 0, .pointer (some ⟨W.heap.size, 0, none⟩), .pointer (some ⟨W.heap.size + 1, 0, none⟩), .int .i64 i, v6, v7, v8, v9, v10, v11, v12, v13, v14, v15, v16, v17, v18, v19, v20, v21, v22, v23], []⟩ [.code LSu, .inLoop LSu, .inBlock 0, .code RSu]) (fr :: cs)) := by
  intro r
  induction r with
  | zero =>
    intro i hi _ v1 v6 v7 v8 v9 v10 v11 v12 v13 v14 v15 v16 v17 v18 v19 v20 v21 v22 v23
    have q1 : decide ((i : Int) < (b.size : Int)) = false := decide_eq_false (by omega)
    have q1n : ¬ (i < b.size) := by omega
    clear hi
    simp only [LSu, RSu, bodySu, Try.f18, Option.getD_some]
    apply To.then
    · refine ⟨30, fun w hF => ?_⟩
      iterate 2 (u_c stepG_seq rl hF)
      u_reg rl hF
      iterate 2 (u_op rl hF)
      u_in rl hF
      refine goes_oper_k rfl rfl (by k_ne) (fun K hK => ?_)
      go_simp
      refine hK _ _ ⟨?_, ?_⟩
      · u_none
        intro e he
        have hm := mem_listed he
        simp [go_sem] at hm
        rw [ev_len] at hm
        simp at hm
      clear hK K
      u_op rl hF
      u_c stepG_region_end rl hF
      u_cond false rl hF
      u_exit rl hF
      u_c stepG_seq rl hF
      u_reg rl hF
      u_call wgLib.f_wait (nm_wait lk) waitFn rl hF
      exact Goes.stop fun _ _ => rfl
    · refine wait_walk wgLib ?_
      apply To.then
      · refine ⟨30, fun w hF => ?_⟩
        walk_nrm
        u_c stepG_region_end rl hF
        u_c stepG_seq rl hF
        u_reg rl hF
        u_call Try.func36 (by rfl) Try.f36 rl hF
        u_c stepG_seq rl hF
        u_reg rl hF
        u_op rl hF
        u_c stepG_region_end rl hF
        u_c stepG_seq rl hF
        u_reg rl hF
        iterate 3 (u_op rl hF)
        exact Goes.stop fun _ _ => rfl
      · refine ⟨0, fun w hF => Goes.stop (fun w₁ h₁ => ?_)⟩
        clear h₁ hF
        refine ⟨rfl, fun tot => ⟨_, fun d st sm => stepG_load_atomic rfl rfl (by k_ne) rfl Try.func69 (by rfl) (by rfl) (by rfl) .i64 (by rfl) rfl (cell_tot d st sm tot), 30, fun w hF => ?_⟩⟩
        walk_nrm
        u_op rl hF
        u_c stepG_region_end rl hF
        u_c stepG_ret' rl hF
        u_leave1 Try.func36 rl hF
        u_op rl hF
        u_c stepG_region_end rl hF
        u_c stepG_ret' rl hF
        u_in rl hF
        refine goes_leaveF rfl rfl Try.func18 rfl ⟨by u_nil, ?_⟩
        exact Goes.stop fun _ _ => rfl
  | succ r ih =>
    intro i hi hr v1 v6 v7 v8 v9 v10 v11 v12 v13 v14 v15 v16 v17 v18 v19 v20 v21 v22 v23
    have hlt : i < b.size := by omega
    have hih := ih (i + 4) (by omega) (by omega)
    have ei : ((i + 4 : Nat) : Int) = (i : Int) + 4 := by omega
    rw [ei] at hih
    have q1 : decide ((i : Int) < (b.size : Int)) = true := decide_eq_true (by omega)
    have hmin : (if (b.size : Int) < IntKind.i64.wrap ((i : Int) + 4) then (b.size : Int) else IntKind.i64.wrap ((i : Int) + 4)) = ((min (i + 4) b.size : Nat) : Int) := by
      rw [show IntKind.i64.wrap ((i : Int) + 4) = (i : Int) + 4 by rw [IntKind.wrap_i64]; omega]
      split <;> omega
    have hsl := fun w => run_sl b i (min (i + 4) b.size) (by omega) (by omega) w
    have hes := fun w es => ev_sl b i (min (i + 4) b.size) (by omega) (by omega) w es
    clear ih hi hr ei
    simp only [LSu, RSu, bodySu, Try.f18, Option.getD_some] at hih ⊢
    have HIH := Lib.hid hih; clear hih
    apply To.then
    · refine ⟨30, fun w hF => ?_⟩
      iterate 2 (u_c stepG_seq rl hF)
      u_reg rl hF
      iterate 2 (u_op rl hF)
      u_in rl hF
      refine goes_oper_k rfl rfl (by k_ne) (fun K hK => ?_)
      go_simp
      refine hK _ _ ⟨?_, ?_⟩
      · u_none
        intro e he
        have hm := mem_listed he
        simp [go_sem] at hm
        rw [ev_len] at hm
        simp at hm
      clear hK K
      u_op rl hF
      u_c stepG_region_end rl hF
      u_cond true rl hF
      u_c stepG_skip rl hF
      u_c stepG_seq rl hF
      u_c stepG_block rl hF
      u_c stepG_seq rl hF
      u_reg rl hF
      u_call wgLib.f_add (nm_add lk) addFn rl hF
      exact Goes.stop fun _ _ => rfl
    · refine add_walk wgLib ?_
      apply To.then
      · refine ⟨30, fun w hF => ?_⟩
        walk_nrm
        u_c stepG_region_end rl hF
        u_reg rl hF
        u_in rl hF
        refine goes_oper_k rfl rfl (by k_ne) (fun K hK => ?_)
        go_simp
        refine hK _ _ ⟨?_, ?_⟩
        · u_none
          intro e he
          have hm := mem_listed he
          simp [go_sem] at hm
          rw [ev_mf] at hm
          simp at hm
        clear hK K
        iterate 5 (u_op rl hF)
        u_in rl hF
        refine goes_oper_k rfl rfl (by k_ne) (fun K hK => ?_)
        go_simp
        refine hK _ _ ⟨?_, ?_⟩
        · u_none
          intro e he
          have hm := mem_listed he
          simp [go_sem] at hm
          rw [ev_len] at hm
          simp at hm
        clear hK K
        u_in rl hF
        refine goes_oper_k rfl rfl (by k_ne) (fun K hK => ?_)
        go_simp
        refine hK _ _ ⟨?_, ?_⟩
        · u_none
          intro e he
          have hm := mem_listed he
          simp [go_sem] at hm
          rw [ev_min] at hm
          simp at hm
        clear hK K
        u_in rl hF
        refine goes_oper_k rfl rfl (by k_ne) (fun K hK => ?_)
        go_simp
        refine hK _ _ ⟨?_, ?_⟩
        · u_none
          intro e he
          have hm := mem_listed he
          simp [go_sem] at hm
          rw [hmin, hes] at hm
          simp at hm
        clear hK K
        exact Goes.stop fun _ _ => rfl
      · refine ⟨0, fun w hF => Goes.stop (fun w₁ h₁ => ?_)⟩
        clear h₁ hF
        refine ⟨rfl, ?_⟩
        apply Exists.intro
        apply And.intro
        · intro w₁ hF
          refine (stepG_spawn rfl rfl (by k_ne) (d := dW W (share b i)) (w' := w₁) ?_ rfl).trans (congrArg (fun es => GStep.spawn _ _ _ es) ?_)
          · simp [go_sem, dW, share, Deferred.ofValue]
          · rfl
        apply To.then
        · refine ⟨30, fun w hF => ?_⟩
          have q6 : IntKind.i64.wrap ((i : Int) + 4) = (i : Int) + 4 := by rw [IntKind.wrap_i64]; omega
          walk_nrm
          u_c stepG_region_end rl hF
          u_c stepG_inBlock rl hF
          u_reg rl hF
          iterate 3 (u_op rl hF)
          u_c stepG_region_end rl hF
          u_c stepG_inLoop rl hF
          exact Goes.stop fun _ _ => rfl
        · exact HIH.out _ _ _ _ _ _ _ _ _ _ _ _ _ _ _ _ _ _ _
end
end Go.Proofs.Ytlgfogllkoabpaa.SimP

/-
  The starter, ahead of its loop.
-/
namespace Go.Proofs.Ytlgfogllkoabpaa.SimP
open Go.Conc Go.ConcN Go.ConcX Go.RowKit Go.Conc.Lib Go.ConcR.Gen Go.ConcN.Gen Go.ConcX.Gen
set_option linter.unusedVariables false
set_option maxRecDepth 100000

set_option maxHeartbeats 8000000 in
theorem start_pre (E : Event → Prop) (b : ByteArray) (W : World) (fr : Frame) (cs : List Frame) :
    Goes Try.prog true AtRel (DE E) (fun g w => ∃ d, w = wd W 53 60 d 0 0 0 ∧ g = G ((base 18).at ⟨#[.string b, undef, .int .i64 0, .pointer (some ⟨W.heap.size, 0, none⟩), .pointer (some ⟨W.heap.size + 1, 0, none⟩), .int .i64 0, undef, undef, undef, undef, undef, undef, undef, undef, undef, undef, undef, undef, undef, undef, undef, undef, undef, undef], []⟩ [.code LSu, .inLoop LSu, .inBlock 0, .code RSu]) (fr :: cs)) 20
      (G (Frame.enter Try.prog 18 #[.string b] .normal) (fr :: cs)) W := by
  have e : Frame.enter Try.prog 18 #[.string b] .normal = (base 18).at ⟨#[.string b, undef, undef, undef, undef, undef, undef, undef, undef, undef, undef, undef, undef, undef, undef, undef, undef, undef, undef, undef, undef, undef, undef, undef], []⟩ [.code bodySu] := by
    simp [Frame.enter, Frame.at, Try.func18, base, bodySu, Try.f18]
  rw [e]
  simp only [LSu, RSu, bodySu, Try.f18, Option.getD_some]
  l_c stepG_seq
  l_reg
  l_op
  l_c stepG_region_end
  l_c stepG_seq
  l_reg
  l_op
  l_c stepG_region_end
  l_c stepG_seq
  l_reg
  l_op
  l_c stepG_region_end
  l_c stepG_seq
  l_c stepG_seq
  l_reg
  l_op
  l_c stepG_region_end
  l_c stepG_block
  l_c stepG_loop
  refine Goes.stop (fun w₁ h₁ => ?_)
  obtain ⟨dd, rfl⟩ := h₁
  exact ⟨_, rfl, rfl⟩
end Go.Proofs.Ytlgfogllkoabpaa.SimP

/-
  A worker's situations, and what one step of its does.
-/
namespace Go.Proofs.Ytlgfogllkoabpaa.SimP
open Go.Conc Go.ConcN Go.RowKit Go.Conc.Lib Go.ConcR.Gen Go.ConcN.Gen
open Go.ConcR (KK wgBlock WgAt stA smA rd wr mk DC0 Payload)
set_option linter.unusedVariables false
set_option maxRecDepth 100000

instance payWg : Payload := ⟨lk.tWg⟩

/-- A worker that adds x: its stage (8: ahead of its add; 7: ahead of its release; 6 to 1: the library's), its fuel, its deafness. -/
inductive WS (W : World) (tT : TypeId) (x : Int) : Nat → Nat → Nat → Goroutine → World → Prop
  | t {m : Nat} {g : Goroutine} {w : World} : Goes Try.prog false (RP W tT lk.tWg) DC0 (fun g _ => WT W tT x g) m g w → WS W tT x 8 m 0 g w
  | r {m : Nat} {g : Goroutine} {w : World} : Goes Try.prog false (RP W tT lk.tWg) DC0 (fun g _ => WRel Try.prog lk W tT g) m g w → WS W tT x 7 m 0 g w
  | z {s m d : Nat} {g : Goroutine} {w : World} : s ≤ 6 → WSit Try.prog lk.tWg (W.heap.size + 1) (W.heap.size + 1) 2 (fun _ _ => False) (fun _ _ => False) 0 2 (.int .u32 0) s m d g w → WS W tT x s m d g w

section
variable {W : World} {tT : TypeId} {x : Int}

theorem rw_wd (d d' : Nat) (st st' sm tot tot' : Int) : RWk lk W (wd W tT lk.tWg d st sm tot) (wd W tT lk.tWg d' st' sm tot') where
  low := fun b hb => absurd hb (Nat.not_lt_zero b)
  live := fun _ => ⟨_, _, wd_wg W tT lk.tWg d' st' sm tot'⟩
  pay := fun _ => ⟨_, wd_wg W tT lk.tWg d' st' sm tot', rfl⟩
  cell := (wd_wg W tT lk.tWg d' st' sm tot').cellSm.trans (wd_wg W tT lk.tWg d st sm tot).cellSm.symm

theorem WS.rely {s m dd d d' : Nat} {g : Goroutine} {st st' sm tot tot' : Int} (h : WS W tT x s m dd g (wd W tT lk.tWg d st sm tot)) : WS W tT x s m dd g (wd W tT lk.tWg d' st' sm tot') := by
  have hp : Ph W tT lk.tWg (wd W tT lk.tWg d' st' sm tot') := ⟨_, _, _, _, rfl⟩
  cases h with
  | t h => exact .t (Goes.rely (fun _ _ _ _ b => b) h hp)
  | r h => exact .r (Goes.rely (fun _ _ _ _ b => b) h hp)
  | z h6 h => exact .z h6 (h.rely (rw_wd d d' st st' sm tot tot'))

/-- .. once it only leaves, whatever the world. -/
theorem WS.quits {s m dd : Nat} {g : Goroutine} {w : World} (h : WS W tT x 1 m dd g w) : QuitsD Try.prog m dd g := by
  cases h with
  | z _ h => cases h with | quit h => exact h

theorem WS.status {s m dd : Nat} {g : Goroutine} {w : World} (hp : Ph W tT lk.tWg w) (h : WS W tT x s m dd g w) (h1 : s ≠ 1) : g.status = .running := by
  cases h with
  | t h => exact Goes.running (fun _ _ x => x.1) w hp h
  | r h => exact Goes.running (fun _ _ x => x.1) w hp h
  | z _ h =>
    cases h with
    | r0 h => omega
    | k1 h => exact Goes.running (fun _ _ x => x.1) w (RW.refl w) h
    | d1 h => exact Goes.running (fun _ _ x => x.1) w (RW.refl w) h
    | d2 h => exact Goes.running (fun _ _ x => x.1) w (RW.refl w) h
    | d3 h => exact Goes.running (fun _ _ x => x.1) w (RW.refl w) h
    | d4 h => exact Goes.running (fun _ _ x => x.1) w (RW.refl w) h
    | quit h => omega

/-- What a step of a worker's turns: from stage s and the cells st, sm, tot. -/
inductive Chg (W : World) (x : Int) : Nat → Nat → Int → Int → Int → Int → Int → Int → Array Event → Prop
  | idle {s : Nat} {st sm tot : Int} : Chg W x s s st sm tot st sm tot #[]
  | add {st sm tot : Int} : Chg W x 8 7 st sm tot st sm (IntKind.i64.wrap (tot + x)) #[rd (toA W.heap.size), wr (toA W.heap.size)]
  | rel {st sm tot : Int} : Chg W x 7 6 st sm tot st sm tot #[mk (.releaseMerge (stA (W.heap.size + 1)))]
  | dis {st sm tot : Int} : Chg W x 6 5 st sm tot st sm tot #[mk .disable]
  | dec {tot : Int} {v wt s' : Nat} : wt ≤ 1 → (v = 0 ∧ wt = 1 → s' = 4) → (¬ (v = 0 ∧ wt = 1) → s' = 1) → Chg W x 5 s' ((v + 1) * KK + wt) 0 tot (v * KK + wt) 0 tot #[rd (stA (W.heap.size + 1)), wr (stA (W.heap.size + 1))]
  | seen {tot : Int} : Chg W x 4 3 1 0 tot 1 0 tot #[rd (stA (W.heap.size + 1))]
  | zero {tot : Int} : Chg W x 3 2 1 0 tot 0 0 tot #[wr (stA (W.heap.size + 1))]
  | sema {tot : Int} : Chg W x 2 1 0 0 tot 0 1 tot (semEvents (smA (W.heap.size + 1)))

/-- What the cells hold where a worker stands at a stage. -/
def Fits (s : Nat) (st sm : Int) : Prop :=
  sm = 0 ∧ (s = 5 → ∃ v wt : Nat, wt ≤ 1 ∧ v < 2147483647 ∧ st = ((v : Nat) + 1) * KK + wt) ∧ (s = 4 ∨ s = 3 → st = 1) ∧ (s = 2 → st = 0)

theorem WS.step {s m dd d : Nat} {g : Goroutine} {st sm tot : Int} (h : WS W tT x s m dd g (wd W tT lk.tWg d st sm tot)) (hf : Fits s st sm) (h1 : s ≠ 1) :
    ∃ (g' : Goroutine) (st' sm' tot' : Int) (es : Array Event) (s' m' : Nat), stepG Try.prog false g (wd W tT lk.tWg d st sm tot) = .go g' (wd W tT lk.tWg d st' sm' tot') es ∧ Chg W x s s' st sm tot st' sm' tot' es ∧
      WS W tT x s' m' (deafBehind dd es) g' (wd W tT lk.tWg d st' sm' tot') ∧ (s' < s ∨ (s' = s ∧ m' < m)) ∧ (s = 2 → mayWake Try.prog g = true ∨ s' = 2) := by
  obtain ⟨rfl, h5, h43, h2⟩ := hf
  have hp : Ph W tT lk.tWg (wd W tT lk.tWg d st 0 tot) := ⟨_, _, _, _, rfl⟩
  cases h with
  | t h =>
    rcases Goes.cases h with hstop | ⟨m', hm, hstep⟩
    · obtain ⟨_, hall⟩ := hstop _ hp
      obtain ⟨g', hgo, n, hn⟩ := hall tot
      exact ⟨g', st, 0, _, _, 7, n, hgo d st 0, .add, .r (hn _ ⟨_, _, _, _, rfl⟩), .inl (by omega), fun e => by omega⟩
    · obtain ⟨g', w', es, hgo, ⟨rfl, rfl⟩, hg⟩ := hstep _ hp
      exact ⟨g', st, 0, tot, _, 8, m', hgo, .idle, .t hg, .inr ⟨rfl, by omega⟩, fun e => by omega⟩
  | r h =>
    rcases Goes.cases h with hstop | ⟨m', hm, hstep⟩
    · obtain ⟨_, g', hgo, hall⟩ := hstop _ hp
      obtain ⟨n, hn⟩ := hall d st tot
      exact ⟨g', st, 0, tot, _, 6, n, hgo _ hp, .rel, .z (by omega) (.k1 hn), .inl (by omega), fun e => by omega⟩
    · obtain ⟨g', w', es, hgo, ⟨rfl, rfl⟩, hg⟩ := hstep _ hp
      exact ⟨g', st, 0, tot, _, 7, m', hgo, .idle, .r hg, .inr ⟨rfl, by omega⟩, fun e => by omega⟩
  | z h6 h =>
    cases h with
    | r0 h => omega
    | quit h => exact absurd rfl h1
    | k1 h =>
      rcases Goes.cases h with hstop | ⟨m', hm, hstep⟩
      · obtain ⟨_, g', hgo, n, hn⟩ := hstop _ (RW.refl _)
        exact ⟨g', st, 0, tot, _, 5, n, hgo, .dis, .z (by omega) (.d1 hn), .inl (by omega), fun e => by omega⟩
      · obtain ⟨g', w', es, hgo, ⟨rfl, rfl⟩, hg⟩ := hstep _ (RW.refl _)
        exact ⟨g', st, 0, tot, _, 6, m', hgo, .idle, .z (by omega) (.k1 hg), .inr ⟨rfl, by omega⟩, fun e => by omega⟩
    | d1 h =>
      rcases Goes.cases h with hstop | ⟨m', hm, hstep⟩
      · obtain ⟨_, hall⟩ := hstop _ (RW.refl _)
        obtain ⟨v, wt, hwt, hv, rfl⟩ := h5 rfl
        obtain ⟨g', hgo, hl, hq⟩ := hall v wt hwt hv (wd_wg W tT lk.tWg d _ 0 tot)
        rw [wd_setSt] at hgo hl
        by_cases hlast : v = 0 ∧ wt = 1
        · obtain ⟨n, hn⟩ := hl hlast
          exact ⟨g', _, 0, tot, _, 4, n, hgo, .dec hwt (fun _ => rfl) (fun c => absurd hlast c), .z (by omega) (.d2 hn), .inl (by omega), fun e => by omega⟩
        · obtain ⟨q, hn⟩ := hq hlast
          exact ⟨g', _, 0, tot, _, 1, q, hgo, .dec hwt (fun c => absurd c hlast) (fun _ => rfl), .z (by omega) (.quit hn), .inl (by omega), fun e => by omega⟩
      · obtain ⟨g', w', es, hgo, ⟨rfl, rfl⟩, hg⟩ := hstep _ (RW.refl _)
        exact ⟨g', st, 0, tot, _, 5, m', hgo, .idle, .z (by omega) (.d1 hg), .inr ⟨rfl, by omega⟩, fun e => by omega⟩
    | d2 h =>
      obtain rfl := h43 (.inl rfl)
      rcases Goes.cases h with hstop | ⟨m', hm, hstep⟩
      · obtain ⟨_, hall⟩ := hstop _ (RW.refl _)
        obtain ⟨g', hgo, n, hn⟩ := hall (wd_wg W tT lk.tWg d _ 0 tot)
        exact ⟨g', 1, 0, tot, _, 3, n, hgo, .seen, .z (by omega) (.d3 hn), .inl (by omega), fun e => by omega⟩
      · obtain ⟨g', w', es, hgo, ⟨rfl, rfl⟩, hg⟩ := hstep _ (RW.refl _)
        exact ⟨g', 1, 0, tot, _, 4, m', hgo, .idle, .z (by omega) (.d2 hg), .inr ⟨rfl, by omega⟩, fun e => by omega⟩
    | d3 h =>
      obtain rfl := h43 (.inr rfl)
      rcases Goes.cases h with hstop | ⟨m', hm, hstep⟩
      · obtain ⟨_, hall⟩ := hstop _ (RW.refl _)
        obtain ⟨g', hgo, n, hn⟩ := hall (wd_wg W tT lk.tWg d _ 0 tot)
        rw [wd_setSt] at hgo hn
        exact ⟨g', 0, 0, tot, _, 2, n, hgo, .zero, .z (by omega) (.d4 hn), .inl (by omega), fun e => by omega⟩
      · obtain ⟨g', w', es, hgo, ⟨rfl, rfl⟩, hg⟩ := hstep _ (RW.refl _)
        exact ⟨g', 1, 0, tot, _, 3, m', hgo, .idle, .z (by omega) (.d3 hg), .inr ⟨rfl, by omega⟩, fun e => by omega⟩
    | d4 h =>
      obtain rfl := h2 rfl
      rcases Goes.cases h with hstop | ⟨m', hm, hstep⟩
      · obtain ⟨_, hmw, hall⟩ := hstop _ (RW.refl _)
        obtain ⟨g', hgo, q, hn⟩ := hall (wd_wg W tT lk.tWg d _ 0 tot)
        rw [wd_setSm] at hgo
        exact ⟨g', 0, 1, tot, _, 1, q, hgo, .sema, .z (by omega) (.quit hn), .inl (by omega), fun _ => .inl hmw⟩
      · obtain ⟨g', w', es, hgo, ⟨rfl, rfl⟩, hg⟩ := hstep _ (RW.refl _)
        exact ⟨g', 0, 0, tot, _, 2, m', hgo, .idle, .z (by omega) (.d4 hg), .inr ⟨rfl, by omega⟩, fun _ => .inr rfl⟩
end
end Go.Proofs.Ytlgfogllkoabpaa.SimP

/-
  The starter's situations, and what one step of its does.
-/
namespace Go.Proofs.Ytlgfogllkoabpaa.SimP
open Go.Conc Go.ConcN Go.RowKit Go.Conc.Lib Go.ConcR.Gen Go.ConcN.Gen
open Go.ConcR (KK wgBlock WgAt stA smA rd wr mk DC0 Payload)
set_option linter.unusedVariables false
set_option maxRecDepth 100000

/-- Where the starter stands: sp r i s: the worker of the share from i on is to be started, r more behind it; s: 5 disable, 4 the add, 3 the mark 'read', 2 enable, 1 the start. -/
inductive Tg where
  | sp (r i s : Nat) | kd | w1 (k : Nat) | w2 (k vs : Nat) | w2w | w3 | blk | w4 | ke | acq | ld | ret (tot : Int)
def phn : Tg → Nat
  | .sp r _ s => 100 + 10 * r + s
  | .kd => 90
  | .w1 k => 25 + 10 * k
  | .w2 k _ => 29 + 10 * k
  | .w2w => 15
  | .w3 => 14
  | .blk => 14
  | .w4 => 13
  | .ke => 12
  | .acq => 11
  | .ld => 10
  | .ret _ => 9
def pendT : Tg → Nat
  | .sp _ _ s => if s ≤ 3 then 1 else 0
  | _ => 0
def nextT : Nat → Nat → Tg
  | 0, _ => .kd
  | r + 1, i => .sp r (i + 4) 5

section
variable (W : World) (tT : TypeId)
abbrev GT (S : Goroutine → Prop) (n : Nat) (g : Goroutine) (w : World) : Prop := Goes Try.prog true (RP W tT lk.tWg) DC0 (fun g _ => S g) n g w

inductive CS (b : ByteArray) (R : Int → Goroutine → Prop) : Tg → Nat → Nat → Goroutine → World → Prop
  | skd {r i m : Nat} {g : Goroutine} {w : World} : GT W tT (SRun W tT b R (r + 1) i) m g w → CS b R (.sp r i 5) m 0 g w
  | sa1 {r i m : Nat} {g : Goroutine} {w : World} : GT W tT (AddSt Try.prog W tT lk.tWg fun v => if v = 0 then Mk Try.prog true W tT lk.tWg (.read (smA (W.heap.size + 1))) (Mk Try.prog true W tT lk.tWg .enable (SGo W tT (share b i) (SRun W tT b R r (i + 4)))) else Mk Try.prog true W tT lk.tWg .enable (SGo W tT (share b i) (SRun W tT b R r (i + 4)))) m g w → CS b R (.sp r i 4) m 1 g w
  | srd {r i m : Nat} {g : Goroutine} {w : World} : GT W tT (Mk Try.prog true W tT lk.tWg (.read (smA (W.heap.size + 1))) (Mk Try.prog true W tT lk.tWg .enable (SGo W tT (share b i) (SRun W tT b R r (i + 4))))) m g w → CS b R (.sp r i 3) m 1 g w
  | ske {r i m : Nat} {g : Goroutine} {w : World} : GT W tT (Mk Try.prog true W tT lk.tWg .enable (SGo W tT (share b i) (SRun W tT b R r (i + 4)))) m g w → CS b R (.sp r i 2) m 1 g w
  | sgo {r i m : Nat} {g : Goroutine} {w : World} : GT W tT (SGo W tT (share b i) (SRun W tT b R r (i + 4))) m g w → CS b R (.sp r i 1) m 0 g w
  | kd {m : Nat} {g : Goroutine} {w : World} : GT W tT (SWait Try.prog W tT lk.tWg (SL W tT R)) m g w → CS b R .kd m 0 g w
  | w1 {k m : Nat} {g : Goroutine} {w : World} : GT W tT (SW1 Try.prog W tT lk.tWg (SL W tT R) k) m g w → CS b R (.w1 k) m 1 g w
  | w2 {k vs m : Nat} {g : Goroutine} {w : World} : GT W tT (SW2 Try.prog W tT lk.tWg (SL W tT R) (SW1 Try.prog W tT lk.tWg (SL W tT R) k) vs) m g w → CS b R (.w2 k vs) m 1 g w
  | w2w {m : Nat} {g : Goroutine} {w : World} : GT W tT (Mk Try.prog true W tT lk.tWg (.write (smA (W.heap.size + 1))) (SW3 Try.prog W tT lk.tWg (SL W tT R))) m g w → CS b R .w2w m 1 g w
  | w3 {m : Nat} {g : Goroutine} {w : World} : GT W tT (SW3 Try.prog W tT lk.tWg (SL W tT R)) m g w → CS b R .w3 (m + 1) 1 g w
  | blk {g : Goroutine} {w : World} : SW3 Try.prog W tT lk.tWg (SL W tT R) g → CS b R .blk 0 1 { g with status := .blocked } w
  | w4 {m : Nat} {g : Goroutine} {w : World} : GT W tT (SW4 Try.prog W tT lk.tWg (SL W tT R)) m g w → CS b R .w4 m 1 g w
  | ke {m : Nat} {g : Goroutine} {w : World} : GT W tT (SKe Try.prog W tT lk.tWg (SL W tT R)) m g w → CS b R .ke m 1 g w
  | acq {m : Nat} {g : Goroutine} {w : World} : GT W tT (Mk Try.prog true W tT lk.tWg (.acquire (stA (W.heap.size + 1))) (SL W tT R)) m g w → CS b R .acq m 0 g w
  | ld {m : Nat} {g : Goroutine} {w : World} : GT W tT (SL W tT R) m g w → CS b R .ld m 0 g w
  | ret {m : Nat} {tot : Int} {g : Goroutine} {w : World} : GT W tT (R tot) m g w → CS b R (.ret tot) m 0 g w
end

section
variable {W : World} {tT : TypeId} {b : ByteArray} {R : Int → Goroutine → Prop}
theorem CS.rely {tag : Tg} {m dd : Nat} {g : Goroutine} {w w' : World} (hp : Ph W tT lk.tWg w') (h : CS W tT b R tag m dd g w) : CS W tT b R tag m dd g w' := by
  have tr : ∀ a b c : World, RP W tT lk.tWg a b → RP W tT lk.tWg b c → RP W tT lk.tWg a c := fun _ _ _ _ b => b
  cases h with
  | skd h => exact .skd (Goes.rely tr h hp)
  | sa1 h => exact .sa1 (Goes.rely tr h hp)
  | srd h => exact .srd (Goes.rely tr h hp)
  | ske h => exact .ske (Goes.rely tr h hp)
  | sgo h => exact .sgo (Goes.rely tr h hp)
  | kd h => exact .kd (Goes.rely tr h hp)
  | w1 h => exact .w1 (Goes.rely tr h hp)
  | w2 h => exact .w2 (Goes.rely tr h hp)
  | w2w h => exact .w2w (Goes.rely tr h hp)
  | w3 h => exact .w3 (Goes.rely tr h hp)
  | blk h => exact .blk h
  | w4 h => exact .w4 (Goes.rely tr h hp)
  | ke h => exact .ke (Goes.rely tr h hp)
  | acq h => exact .acq (Goes.rely tr h hp)
  | ld h => exact .ld (Goes.rely tr h hp)
  | ret h => exact .ret (Goes.rely tr h hp)

/-- What the cells hold, v workers being counted. -/
inductive FitsC (v : Nat) : Tg → Int → Int → Prop
  | sp {r i s : Nat} : v ≤ 2 → (s = 3 → v = 0) → FitsC v (.sp r i s) (((v + pendT (.sp r i s) : Nat) : Int) * KK) 0
  | kd : v ≤ 3 → FitsC v .kd ((v : Int) * KK) 0
  | w1 {k : Nat} : v ≤ k → k ≤ 3 → FitsC v (.w1 k) ((v : Int) * KK) 0
  | w2 {k vs : Nat} : v ≤ vs → vs ≤ k + 1 → 1 ≤ vs → k ≤ 2 → FitsC v (.w2 k vs) ((v : Int) * KK) 0
  | w2w {st sm : Int} : FitsC v .w2w st sm
  | w3 {st : Int} : FitsC v .w3 st 0
  | sema : FitsC v .w3 0 1
  | fin {tag : Tg} : tag = .w4 ∨ tag = .ke ∨ tag = .acq ∨ tag = .ld ∨ (∃ tot, tag = .ret tot) → FitsC v tag 0 0

/-- What a step of the starter's turns. -/
inductive ChgC (W : World) (v : Nat) (tot : Int) : Tg → Tg → Int → Int → Int → Int → Array Event → Prop
  | idle {tag : Tg} {st sm : Int} : ChgC W v tot tag tag st sm st sm #[]
  | dis {r i : Nat} {st sm : Int} : ChgC W v tot (.sp r i 5) (.sp r i 4) st sm st sm #[mk .disable]
  | inc {r i s' : Nat} : s' = (if v = 0 then 3 else 2) → ChgC W v tot (.sp r i 4) (.sp r i s') ((v : Int) * KK) 0 (((v + 1 : Nat) : Int) * KK) 0 #[rd (stA (W.heap.size + 1)), wr (stA (W.heap.size + 1))]
  | rdm {r i : Nat} {st sm : Int} : ChgC W v tot (.sp r i 3) (.sp r i 2) st sm st sm #[mk (.read (smA (W.heap.size + 1)))]
  | en {r i : Nat} {st sm : Int} : ChgC W v tot (.sp r i 2) (.sp r i 1) st sm st sm #[mk .enable]
  | kd {st sm : Int} : ChgC W v tot .kd (.w1 3) st sm st sm #[mk .disable]
  | none {k : Nat} {st sm : Int} : v = 0 → ChgC W v tot (.w1 k) .ke st sm st sm #[rd (stA (W.heap.size + 1))]
  | some {k : Nat} {st sm : Int} : 1 ≤ v → ChgC W v tot (.w1 (k + 1)) (.w2 k v) st sm st sm #[rd (stA (W.heap.size + 1))]
  | hit {k : Nat} {sm : Int} : 1 ≤ v → ChgC W v tot (.w2 k v) .w2w ((v : Int) * KK) sm ((v : Int) * KK + 1) sm #[rd (stA (W.heap.size + 1)), wr (stA (W.heap.size + 1))]
  | miss {k vs : Nat} {st sm : Int} : v < vs → ChgC W v tot (.w2 k vs) (.w1 k) st sm st sm #[rd (stA (W.heap.size + 1))]
  | wrm {st sm : Int} : ChgC W v tot .w2w .w3 st sm st sm #[mk (.write (smA (W.heap.size + 1)))]
  | sleep {st : Int} : ChgC W v tot .w3 .blk st 0 st 0 #[]
  | up : ChgC W v tot .w3 .w4 0 1 0 0 (semEvents (smA (W.heap.size + 1)))
  | rd4 : ChgC W v tot .w4 .ke 0 0 0 0 #[rd (stA (W.heap.size + 1))]
  | ken : ChgC W v tot .ke .acq 0 0 0 0 #[mk .enable]
  | acq : ChgC W v tot .acq .ld 0 0 0 0 #[mk (.acquire (stA (W.heap.size + 1)))]
  | read : ChgC W v tot .ld (.ret tot) 0 0 0 0 #[rd (toA W.heap.size)]
end
end Go.Proofs.Ytlgfogllkoabpaa.SimP
