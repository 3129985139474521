/-
  What one step of the starter's does.
-/
import Derived.Test.YtlgfogllkoabpaaCrA
import Derived.Conc.CrowdStepW
import Derived.Conc.CrowdRun
namespace Go.Proofs.Ytlgfogllkoabpaa.SimP
open Go.Conc Go.ConcN Go.RowKit Go.Conc.Lib Go.ConcR.Gen Go.ConcN.Gen
open Go.ConcR (KK wgBlock WgAt stA smA rd wr mk DC0 Payload)
set_option linter.unusedVariables false
set_option maxRecDepth 100000

section
variable {W : World} {tT : TypeId} {b : ByteArray} {R : Int → Goroutine → Prop}
theorem gt_cases {S : Goroutine → Prop} {m : Nat} {g : Goroutine} {w : World} (hp : Ph W tT lk.tWg w) (h : GT W tT S m g w) : S g ∨ ∃ m' g', m = m' + 1 ∧ stepG Try.prog true g w = .go g' w #[] ∧ GT W tT S m' g' w := by
  rcases Goes.cases h with hstop | ⟨m', hm, hstep⟩
  · exact .inl (hstop _ hp)
  · obtain ⟨g', w', es, hgo, ⟨rfl, rfl⟩, hg⟩ := hstep _ hp
    exact .inr ⟨m', g', hm, hgo, hg⟩

def StepC (W : World) (tT : TypeId) (b : ByteArray) (R : Int → Goroutine → Prop) (v : Nat) (tag : Tg) (m dd d : Nat) (g : Goroutine) (st sm tot : Int) : Prop :=
  ∃ (g' : Goroutine) (st' sm' : Int) (es : Array Event) (tag' : Tg) (m' : Nat), stepG Try.prog true g (wd W tT lk.tWg d st sm tot) = .go g' (wd W tT lk.tWg d st' sm' tot) es ∧ ChgC W v tot tag tag' st sm st' sm' es ∧
    CS W tT b R tag' m' (deafBehind dd es) g' (wd W tT lk.tWg d st' sm' tot) ∧ (phn tag' < phn tag ∨ (phn tag' = phn tag ∧ m' < m))

theorem CS.step {v : Nat} {tag : Tg} {m dd d : Nat} {g : Goroutine} {st sm tot : Int} (h : CS W tT b R tag m dd g (wd W tT lk.tWg d st sm tot)) (hf : FitsC v tag st sm) (hb : tag ≠ .blk) :
    StepC W tT b R v tag m dd d g st sm tot ∨
    (∃ r i, tag = .sp r i 1 ∧ ∃ g' m', stepG Try.prog true g (wd W tT lk.tWg d st sm tot) = .spawn g' (born Try.prog (dW W (share b i))) (wd W tT lk.tWg d st sm tot) #[] ∧ CS W tT b R (nextT r i) m' 0 g' (wd W tT lk.tWg d st sm tot)) ∨
    (∃ tot', tag = .ret tot' ∧ R tot' g) := by
  have hp : ∀ st sm, Ph W tT lk.tWg (wd W tT lk.tWg d st sm tot) := fun st sm => ⟨_, _, _, _, rfl⟩
  cases h with
  | skd h =>
    refine .inl ?_
    rcases gt_cases (hp _ _) h with hs | ⟨m', g', hm, hgo, hg⟩
    · obtain ⟨_, g', hgo, n, hn⟩ := hs
      exact ⟨g', _, _, _, .sp _ _ 4, n, hgo _ (hp _ _), .dis, .sa1 (hn _ (hp _ _)), .inl (by simp only [phn]; omega)⟩
    · exact ⟨g', _, _, _, _, m', hgo, .idle, .skd hg, .inr ⟨rfl, by omega⟩⟩
  | sa1 h =>
    refine .inl ?_
    rcases gt_cases (hp _ _) h with hs | ⟨m', g', hm, hgo, hg⟩
    · obtain ⟨_, hall⟩ := hs
      cases hf with
      | sp h2 _ =>
        obtain ⟨g', hgo, n, hn⟩ := hall v h2
        have e1 : ((v + 1 : Nat) : Int) = (v : Int) + 1 := by omega
        have hgo := hgo d tot
        rw [← e1] at hgo
        by_cases h0 : v = 0
        · simp only [if_pos h0] at hn
          exact ⟨g', _, _, _, .sp _ _ 3, n, hgo, .inc (by rw [if_pos h0]), .srd (hn _ (hp _ _)), .inl (by simp only [phn]; omega)⟩
        · simp only [if_neg h0] at hn
          exact ⟨g', _, _, _, .sp _ _ 2, n, hgo, .inc (by rw [if_neg h0]), .ske (hn _ (hp _ _)), .inl (by simp only [phn]; omega)⟩
      | fin hh => rcases hh with e | e | e | e | ⟨_, e⟩ <;> exact Tg.noConfusion e
    · exact ⟨g', _, _, _, _, m', hgo, .idle, .sa1 hg, .inr ⟨rfl, by omega⟩⟩
  | srd h =>
    refine .inl ?_
    rcases gt_cases (hp _ _) h with hs | ⟨m', g', hm, hgo, hg⟩
    · obtain ⟨_, g', hgo, n, hn⟩ := hs
      exact ⟨g', _, _, _, .sp _ _ 2, n, hgo _ (hp _ _), .rdm, .ske (hn _ (hp _ _)), .inl (by simp only [phn]; omega)⟩
    · exact ⟨g', _, _, _, _, m', hgo, .idle, .srd hg, .inr ⟨rfl, by omega⟩⟩
  | ske h =>
    refine .inl ?_
    rcases gt_cases (hp _ _) h with hs | ⟨m', g', hm, hgo, hg⟩
    · obtain ⟨_, g', hgo, n, hn⟩ := hs
      exact ⟨g', _, _, _, .sp _ _ 1, n, hgo _ (hp _ _), .en, .sgo (hn _ (hp _ _)), .inl (by simp only [phn]; omega)⟩
    · exact ⟨g', _, _, _, _, m', hgo, .idle, .ske hg, .inr ⟨rfl, by omega⟩⟩
  | @sgo r i _ _ _ h =>
    rcases gt_cases (hp _ _) h with hs | ⟨m', g', hm, hgo, hg⟩
    · obtain ⟨_, g', hgo, n, hn⟩ := hs
      refine .inr (.inl ⟨r, i, rfl, g', n, hgo _ (hp _ _), ?_⟩)
      cases r with
      | zero => exact .kd (hn _ (hp _ _))
      | succ r => exact .skd (hn _ (hp _ _))
    · exact .inl ⟨g', _, _, _, _, m', hgo, .idle, .sgo hg, .inr ⟨rfl, by omega⟩⟩
  | kd h =>
    refine .inl ?_
    rcases gt_cases (hp _ _) h with hs | ⟨m', g', hm, hgo, hg⟩
    · obtain ⟨_, g', hgo, n, hn⟩ := hs
      exact ⟨g', _, _, _, .w1 3, n, hgo _ (hp _ _), .kd, .w1 (hn _ (hp _ _)), .inl (by simp only [phn]; omega)⟩
    · exact ⟨g', _, _, _, _, m', hgo, .idle, .kd hg, .inr ⟨rfl, by omega⟩⟩
  | @w1 k _ _ _ h =>
    refine .inl ?_
    rcases gt_cases (hp _ _) h with hs | ⟨m', g', hm, hgo, hg⟩
    · cases hf with
      | w1 h1 h2 =>
        cases k with
        | zero =>
          obtain rfl : v = 0 := by omega
          obtain ⟨_, g', hgo, n, hn⟩ := hs
          have e0 : ((0 : Nat) : Int) * KK = 0 := by decide
          rw [e0]
          exact ⟨g', _, _, _, .ke, n, hgo d tot, .none rfl, .ke (hn _ (hp _ _)), .inl (by simp only [phn]; omega)⟩
        | succ k =>
          obtain ⟨_, hz, hall⟩ := hs
          by_cases h0 : v = 0
          · subst h0
            obtain ⟨g', hgo, n, hn⟩ := hz
            have e0 : ((0 : Nat) : Int) * KK = 0 := by decide
            rw [e0]
            exact ⟨g', _, _, _, .ke, n, hgo d tot, .none rfl, .ke (hn _ (hp _ _)), .inl (by simp only [phn]; omega)⟩
          · obtain ⟨g', hgo, n, hn⟩ := hall v (by omega) (by omega)
            exact ⟨g', _, _, _, .w2 k v, n, hgo d tot, .some (by omega), .w2 (hn _ (hp _ _)), .inl (by simp only [phn]; omega)⟩
      | fin hh => rcases hh with e | e | e | e | ⟨_, e⟩ <;> exact Tg.noConfusion e
    · exact ⟨g', _, _, _, _, m', hgo, .idle, .w1 hg, .inr ⟨rfl, by omega⟩⟩
  | @w2 k vs _ _ _ h =>
    refine .inl ?_
    rcases gt_cases (hp _ _) h with hs | ⟨m', g', hm, hgo, hg⟩
    · cases hf with
      | w2 h1 h2 h3 h4 =>
        obtain ⟨_, hz, hall⟩ := hs
        by_cases h0 : v = vs
        · subst h0
          obtain ⟨g', hgo, n, hn⟩ := hz
          exact ⟨g', _, _, _, .w2w, n, hgo d tot, .hit h3, .w2w (hn _ (hp _ _)), .inl (by simp only [phn]; omega)⟩
        · obtain ⟨g', hgo, n, hn⟩ := hall v (by omega)
          exact ⟨g', _, _, _, .w1 k, n, hgo d tot, .miss (by omega), .w1 (hn _ (hp _ _)), .inl (by simp only [phn]; omega)⟩
      | fin hh => rcases hh with e | e | e | e | ⟨_, e⟩ <;> exact Tg.noConfusion e
    · exact ⟨g', _, _, _, _, m', hgo, .idle, .w2 hg, .inr ⟨rfl, by omega⟩⟩
  | w2w h =>
    refine .inl ?_
    rcases gt_cases (hp _ _) h with hs | ⟨m', g', hm, hgo, hg⟩
    · obtain ⟨_, g', hgo, n, hn⟩ := hs
      exact ⟨g', _, _, _, .w3, n + 1, hgo _ (hp _ _), .wrm, .w3 (hn _ (hp _ _)), .inl (by simp only [phn]; omega)⟩
    · exact ⟨g', _, _, _, _, m', hgo, .idle, .w2w hg, .inr ⟨rfl, by omega⟩⟩
  | w3 h =>
    refine .inl ?_
    rcases gt_cases (hp _ _) h with hs | ⟨m', g', hm, hgo, hg⟩
    · have hs' := hs
      obtain ⟨_, hof, hbl, g', hgo, n, hn⟩ := hs
      cases hf with
      | w3 => exact ⟨_, _, _, _, .blk, 0, hbl d st tot, .sleep, .blk hs', .inr ⟨rfl, by omega⟩⟩
      | sema => exact ⟨g', _, _, _, .w4, n, hgo d tot, .up, .w4 (hn _ (hp _ _)), .inl (by simp only [phn]; omega)⟩
      | fin hh => rcases hh with e | e | e | e | ⟨_, e⟩ <;> exact Tg.noConfusion e
    · exact ⟨g', _, _, _, .w3, m' + 1, hgo, .idle, .w3 hg, .inr ⟨rfl, by omega⟩⟩
  | blk h => exact absurd rfl hb
  | w4 h =>
    refine .inl ?_
    rcases gt_cases (hp _ _) h with hs | ⟨m', g', hm, hgo, hg⟩
    · obtain ⟨_, g', hgo, n, hn⟩ := hs
      cases hf
      exact ⟨g', _, _, _, .ke, n, hgo d tot, .rd4, .ke (hn _ (hp _ _)), .inl (by simp only [phn]; omega)⟩
    · exact ⟨g', _, _, _, _, m', hgo, .idle, .w4 hg, .inr ⟨rfl, by omega⟩⟩
  | ke h =>
    refine .inl ?_
    rcases gt_cases (hp _ _) h with hs | ⟨m', g', hm, hgo, hg⟩
    · obtain ⟨_, g', hgo, n, hn⟩ := hs
      cases hf
      exact ⟨g', _, _, _, .acq, n, hgo _ (hp _ _), .ken, .acq (hn _ (hp _ _)), .inl (by simp only [phn]; omega)⟩
    · exact ⟨g', _, _, _, _, m', hgo, .idle, .ke hg, .inr ⟨rfl, by omega⟩⟩
  | acq h =>
    refine .inl ?_
    rcases gt_cases (hp _ _) h with hs | ⟨m', g', hm, hgo, hg⟩
    · obtain ⟨_, g', hgo, n, hn⟩ := hs
      cases hf
      exact ⟨g', _, _, _, .ld, n, hgo _ (hp _ _), .acq, .ld (hn _ (hp _ _)), .inl (by simp only [phn]; omega)⟩
    · exact ⟨g', _, _, _, _, m', hgo, .idle, .acq hg, .inr ⟨rfl, by omega⟩⟩
  | ld h =>
    refine .inl ?_
    rcases gt_cases (hp _ _) h with hs | ⟨m', g', hm, hgo, hg⟩
    · obtain ⟨_, hall⟩ := hs
      obtain ⟨g', hgo, n, hn⟩ := hall tot
      cases hf
      exact ⟨g', _, _, _, .ret tot, n, hgo d 0 0, .read, .ret (hn _ (hp _ _)), .inl (by simp only [phn]; omega)⟩
    · exact ⟨g', _, _, _, _, m', hgo, .idle, .ld hg, .inr ⟨rfl, by omega⟩⟩
  | ret h =>
    rcases gt_cases (hp _ _) h with hs | ⟨m', g', hm, hgo, hg⟩
    · exact .inr (.inr ⟨_, rfl, hs⟩)
    · exact .inl ⟨g', _, _, _, _, m', hgo, .idle, .ret hg, .inr ⟨rfl, by omega⟩⟩
end
end Go.Proofs.Ytlgfogllkoabpaa.SimP

/-
  What the group's cells hold, from where all stand.
-/
namespace Go.Proofs.Ytlgfogllkoabpaa.SimP
open Go.Conc Go.ConcN Go.RowKit Go.Conc.Lib Go.ConcR.Gen Go.ConcN.Gen
open Go.ConcR (KK wgBlock WgAt stA smA rd wr mk DC0 Payload)
set_option linter.unusedVariables false
set_option maxRecDepth 100000

/-- The library's tag of a starter that stands here. -/
def toC : Tg → CTag
  | .sp r _ s => .sp r s
  | .kd => .kd
  | .w1 _ => .w1
  | .w2 _ vs => .w2 vs
  | .w2w => .w3
  | .w3 => .w3
  | .blk => .blk
  | .w4 => .w4
  | .ke => .ke
  | .acq => .acq
  | .ld => .acq
  | .ret _ => .ret
def cap (d : WD) : WD := ⟨min d.stage 7, d.fuel, d.deaf⟩
def side (v j : Nat) : Tg → Prop
  | .sp _ _ s => j ≤ 2 ∧ (s = 3 → v = 0)
  | .w1 k => v ≤ k ∧ k ≤ 3
  | .w2 k vs => vs ≤ k + 1 ∧ k ≤ 2
  | _ => True
structure Md (j : Nat) (D : Nat → WD) (tag : Tg) (st sm : Int) : Prop where
  mode : ConcN.Mode j (fun i => cap (D i)) (toC tag) st sm
  side : side (Vc j fun i => cap (D i)) j tag
  le3 : j ≤ 3

theorem pend_toC (tag : Tg) : pend (toC tag) = pendT tag := by cases tag <;> rfl

theorem Md.fits {j : Nat} {D : Nat → WD} {tag : Tg} {st sm : Int} (h : Md j D tag st sm) (hb : tag ≠ .blk) : FitsC (Vc j fun i => cap (D i)) tag st sm := by
  obtain ⟨hm, hs, h3⟩ := h
  have hv := Vc_le j (fun i => cap (D i))
  generalize e : toC tag = c at hm
  cases hm with
  | opn h1 h2 h4 =>
    generalize Vc j (fun i => cap (D i)) = v at *
    cases tag <;> (try (subst e; exact h1.elim)) <;> (try (exact absurd rfl hb))
    · subst e
      rw [pend_toC]
      exact .sp (by have := hs.1; omega) hs.2
    · subst e
      exact .kd (by omega)
    · subst e
      exact .w1 hs.1 hs.2
    · subst e
      have := h4 _ rfl
      exact .w2 this.1 hs.1 this.2 hs.2
  | reg h1 h2 h4 => cases tag <;> (try (subst e; exact h1.elim)) <;> (try (exact absurd rfl hb)) <;> first | exact .w2w | exact .w3
  | last L h1 h2 h4 h5 => cases tag <;> (try (subst e; exact h1.elim)) <;> (try (exact absurd rfl hb)) <;> first | exact .w2w | exact .w3
  | sema h1 => cases tag <;> first | exact .w2w | exact .sema | (exact absurd e (by simp [toC]))
  | fin h1 h2 => cases tag <;> (try (subst e; exact h1.elim)) <;> (try (exact absurd rfl hb)) <;> exact .fin (by simp)

/-- .. at a worker that has not left. -/
theorem Md.fitsW {j i : Nat} {D : Nat → WD} {tag : Tg} {st sm : Int} (h : Md j D tag st sm) (hi : i < j) (h1 : (D i).stage ≠ 1) (h0 : (D i).stage ≠ 0) : Fits (D i).stage st sm := by
  obtain ⟨hm, hs, h3⟩ := h
  have hv := Vc_le j (fun i => cap (D i))
  have hc : (cap (D i)).stage = min (D i).stage 7 := rfl
  have one : ∀ s, s = (D i).stage → s = 5 → 1 ≤ Vc j (fun i => cap (D i)) := fun s e e5 => by
    have := le_sumTo (f := fun x => cnt (cap (D x))) hi
    have c1 : cnt (cap (D i)) = 1 := by simp only [cnt, hc]; rw [if_pos (by omega)]
    simp only [Vc]
    omega
  generalize e : toC tag = c at hm
  cases hm with
  | opn h2 h4 h5 =>
    have := h4 i hi
    rw [hc] at this
    refine ⟨rfl, fun e5 => ?_, fun e => by omega, fun e => by omega⟩
    have := one _ rfl e5
    have hp : pend c ≤ 1 := by subst e; rw [pend_toC]; unfold pendT; split <;> (try split) <;> omega
    exact ⟨Vc j (fun i => cap (D i)) + pend c - 1, 0, by omega, by omega, by
      have : (((Vc j (fun i => cap (D i)) + pend c - 1 : Nat) : Int) + 1) = ((Vc j (fun i => cap (D i)) + pend c : Nat) : Int) := by omega
      rw [this]; simp⟩
  | reg h2 h4 h5 =>
    have := h4 i hi
    rw [hc] at this
    refine ⟨rfl, fun e5 => ?_, fun e => by omega, fun e => by omega⟩
    exact ⟨Vc j (fun i => cap (D i)) - 1, 1, by omega, by omega, by
      have : (((Vc j (fun i => cap (D i)) - 1 : Nat) : Int) + 1) = ((Vc j (fun i => cap (D i)) : Nat) : Int) := by omega
      rw [this]; simp⟩
  | last L h2 h4 h5 h6 =>
    by_cases eL : i = L
    · subst eL
      rw [hc] at h5
      rw [hc]
      refine ⟨rfl, fun e5 => by omega, fun e => ?_, fun e => ?_⟩
      · rw [if_neg (by omega)]
      · rw [if_pos (by omega)]
    · have := h6 i hi eL
      rw [hc] at this
      omega
  | sema h2 => have := h2 i hi; rw [hc] at this; omega
  | fin h2 h4 => have := h4 i hi; rw [hc] at this; omega
end Go.Proofs.Ytlgfogllkoabpaa.SimP

/-
  A worker's step keeps what the group's cells hold.
-/
namespace Go.Proofs.Ytlgfogllkoabpaa.SimP
open Go.Conc Go.ConcN Go.RowKit Go.Conc.Lib Go.ConcR.Gen Go.ConcN.Gen
open Go.ConcR (KK wgBlock WgAt stA smA rd wr mk DC0 Payload)
set_option linter.unusedVariables false
set_option maxRecDepth 100000

theorem cap_upd (D : Nat → WD) (i : Nat) (x : WD) : (fun a => cap (upd D i x a)) = upd (fun a => cap (D a)) i (cap x) := by
  funext a
  by_cases e : a = i
  · subst e; simp [upd_same]
  · simp [upd_ne _ _ e]

/-- The starter stands where it stood, or it was woken. -/
def Retag (tag tag' : Tg) : Prop := tag' = tag ∨ (tag = .blk ∧ tag' = .w3)
theorem Retag.side {tag tag' : Tg} (h : Retag tag tag') {v v' j : Nat} (hv : v' ≤ v) (hs : side v j tag) : side v' j tag' := by
  rcases h with rfl | ⟨rfl, rfl⟩
  · cases tag' <;> simp only [SimP.side] at hs ⊢ <;> (try trivial)
    · exact ⟨hs.1, fun e => by have := hs.2 e; omega⟩
    · omega
  · trivial
theorem Retag.toC {tag tag' : Tg} (h : Retag tag tag') : toC tag' = toC tag ∨ (toC tag = .blk ∧ toC tag' = .w3) := by
  rcases h with rfl | ⟨rfl, rfl⟩
  · exact .inl rfl
  · exact .inr ⟨rfl, rfl⟩

theorem Md.worker {W : World} {x : Int} {j i s' m' dd' : Nat} {D : Nat → WD} {tag tag' : Tg} {st sm tot st' sm' tot' : Int} {es : Array Event} (h : Md j D tag st sm) (hi : i < j)
    (hc : Chg W x (D i).stage s' st sm tot st' sm' tot' es) (h1 : (D i).stage ≠ 1) (h0 : (D i).stage ≠ 0) (hr : Retag tag tag') (hw : (D i).stage = 2 → s' = 1 → tag' ≠ .blk) : Md j (upd D i ⟨s', m', dd'⟩) tag' st' sm' := by
  obtain ⟨hm, hs, h3⟩ := h
  have hV := Vc_upd (fun a => cap (D a)) (cap ⟨s', m', dd'⟩) hi
  generalize hst : (D i).stage = s at *
  have hcap : (cap (D i)).stage = min s 7 := by simp [cap, hst]
  have keep : ∀ {s₁ : Nat}, min s₁ 7 = min s 7 → ConcN.Mode j (fun a => cap (upd D i ⟨s₁, m', dd'⟩ a)) (SimP.toC tag') st sm ∧ Vc j (fun a => cap (upd D i ⟨s₁, m', dd'⟩ a)) = Vc j (fun a => cap (D a)) := by
    intro s₁ e
    have hst' : ∀ a, a < j → (cap (upd D i ⟨s₁, m', dd'⟩ a)).stage = (cap (D a)).stage := fun a ha => by
      by_cases e' : a = i
      · subst e'; rw [upd_same, hcap]; exact e
      · rw [upd_ne _ _ e']
    exact ⟨(hm.congr hst').retag hr.toC, sumTo_congr fun a ha => by simp only [cnt, hst' a ha]⟩
  have count : ∀ {s₁ : Nat}, 5 ≤ s → s₁ = 6 ∨ s₁ = 5 → ConcN.Mode j (fun a => cap (upd D i ⟨s₁, m', dd'⟩ a)) (SimP.toC tag') st sm ∧ Vc j (fun a => cap (upd D i ⟨s₁, m', dd'⟩ a)) = Vc j (fun a => cap (D a)) := by
    intro s₁ h5 e
    rw [cap_upd]
    have ec : cap (⟨s₁, m', dd'⟩ : WD) = ⟨s₁, m', dd'⟩ := by simp only [cap]; congr 1; omega
    rw [ec]
    refine ⟨(hm.counted hi (by rw [hcap]; omega) e m' dd').retag hr.toC, ?_⟩
    have := Vc_upd (fun a => cap (D a)) (⟨s₁, m', dd'⟩ : WD) hi
    have c1 : cnt (cap (D i)) = 1 := by simp only [cnt, hcap]; rw [if_pos (by omega)]
    have c2 : cnt (⟨s₁, m', dd'⟩ : WD) = 1 := by simp only [cnt]; rw [if_pos (by omega)]
    omega
  have w3' : isW3 (SimP.toC tag) → isW3 (SimP.toC tag') := fun k => by
    rcases hr.toC with hrt | ⟨_, hrt⟩
    · rw [hrt]; exact k
    · rw [hrt]; trivial
  have dropV : ∀ {s₁ : Nat}, s₁ ≤ 4 → Vc j (fun a => cap (upd D i ⟨s₁, m', dd'⟩ a)) ≤ Vc j (fun a => cap (D a)) := by
    intro s₁ e
    rw [cap_upd]
    have := Vc_upd (fun a => cap (D a)) (cap ⟨s₁, m', dd'⟩) hi
    have c0 : (cap (⟨s₁, m', dd'⟩ : WD)).stage = min s₁ 7 := rfl
    have c2 : cnt (cap (⟨s₁, m', dd'⟩ : WD)) = 0 := by unfold cnt; exact if_neg (by omega)
    omega
  have lastM : ∀ {s₁ : Nat}, s₁ = 4 ∨ s₁ = 3 ∨ s₁ = 2 → isW3 (SimP.toC tag') → (∀ a, a < j → a ≠ i → (cap (D a)).stage = 1) → ConcN.Mode j (fun a => cap (upd D i ⟨s₁, m', dd'⟩ a)) (SimP.toC tag') (if s₁ = 2 then 0 else 1) 0 := by
    intro s₁ e k1 ho
    rw [cap_upd]
    have ec : cap (⟨s₁, m', dd'⟩ : WD) = ⟨s₁, m', dd'⟩ := by simp only [cap]; congr 1; omega
    rw [ec]
    have := ConcN.Mode.last (D := upd (fun a => cap (D a)) i ⟨s₁, m', dd'⟩) i k1 hi (by rw [upd_same]; exact e) (fun a ha e' => by rw [upd_ne _ _ e']; exact ho a ha e')
    rw [upd_same] at this
    exact this
  cases hc with
  | idle => exact ⟨(keep rfl).1, hr.side (by rw [(keep rfl).2]; exact Nat.le_refl _) hs, h3⟩
  | add => exact ⟨(keep (by omega)).1, hr.side (by rw [(keep (by omega)).2]; exact Nat.le_refl _) hs, h3⟩
  | rel => exact ⟨(count (by omega) (.inl rfl)).1, hr.side (by rw [(count (by omega) (.inl rfl)).2]; exact Nat.le_refl _) hs, h3⟩
  | dis => exact ⟨(count (by omega) (.inr rfl)).1, hr.side (by rw [(count (by omega) (.inr rfl)).2]; exact Nat.le_refl _) hs, h3⟩
  | @dec _ v wt _ hwt hl hq =>
    have ec : cap (⟨s', m', dd'⟩ : WD) = ⟨s', m', dd'⟩ := by
      by_cases c : v = 0 ∧ wt = 1
      · rw [hl c]; rfl
      · rw [hq c]; rfl
    rw [ec] at hV
    have c1 : cnt (cap (D i)) = 1 := by simp only [cnt, hcap]; rw [if_pos (by omega)]
    have c2 : cnt (⟨s', m', dd'⟩ : WD) = 0 := by
      by_cases c : v = 0 ∧ wt = 1
      · rw [hl c]; rfl
      · rw [hq c]; rfl
    rw [c1, c2] at hV
    have opq : OpenSt j (fun a => cap (D a)) → s' = 1 → OpenSt j (upd (fun a => cap (D a)) i ⟨s', m', dd'⟩) := fun ho e a ha => by
      by_cases e' : a = i
      · subst e'; rw [upd_same]; exact .inr (.inr (.inr e))
      · rw [upd_ne _ _ e']; exact ho a ha
    have sd : SimP.side (Vc j (fun a => cap (upd D i ⟨s', m', dd'⟩ a))) j tag' := by rw [cap_upd, ec]; exact hr.side (by omega) hs
    generalize hq2 : ((v : Int) + 1) * KK + wt = st0 at hm
    have hrt := hr.toC
    generalize e : SimP.toC tag = c at hm hrt
    cases hm with
    | opn k1 k2 k3 =>
      simp only [KK] at hq2
      have : wt = 0 := by omega
      subst this
      have hs1 := hq (by omega)
      rcases hrt with hrt | ⟨hrt, _⟩
      · have e2 : (v : Int) * KK + ((0 : Nat) : Int) = (((Vc j (upd (fun a => cap (D a)) i ⟨s', m', dd'⟩) + pend c : Nat) : Int)) * KK := by simp only [KK]; omega
        refine ⟨?_, sd, h3⟩
        rw [cap_upd, ec, e2, hrt]
        exact .opn k1 (opq k2 hs1) (fun vs e => by have := k3 vs e; omega)
      · subst hrt; exact k1.elim
    | reg k1 k2 k3 =>
      simp only [KK] at hq2
      have : wt = 1 := by omega
      subst this
      have k1' : isW3 (SimP.toC tag') := by
        rcases hrt with hrt | ⟨_, hrt⟩
        · rw [hrt]; exact k1
        · rw [hrt]; trivial
      by_cases h00 : v = 0
      · have hs4 := hl ⟨h00, rfl⟩
        have hV1 : Vc j (fun a => cap (D a)) = 1 := by subst h00; simp at hq2; omega
        subst hs4 h00
        have hu := others_uncounted (D := fun a => cap (D a)) hi hV1 c1
        have hL := lastM (s₁ := 4) (.inl rfl) k1' (fun a ha e' => by
          have hz : cnt (cap (D a)) = 0 := hu a ha e'
          have k : (cap (D a)).stage = 7 ∨ (cap (D a)).stage = 6 ∨ (cap (D a)).stage = 5 ∨ (cap (D a)).stage = 1 := k2 a ha
          by_cases c5 : 5 ≤ (cap (D a)).stage
          · simp [cnt, c5] at hz
          · omega)
        refine ⟨?_, sd, h3⟩
        have e2 : ((0 : Nat) : Int) * KK + ((1 : Nat) : Int) = 1 := by decide
        rw [e2]
        exact hL
      · have hs1 := hq (by omega)
        have e2 : (v : Int) * KK + ((1 : Nat) : Int) = ((Vc j (upd (fun a => cap (D a)) i ⟨s', m', dd'⟩) : Nat) : Int) * KK + 1 := by simp only [KK]; omega
        refine ⟨?_, sd, h3⟩
        rw [cap_upd, ec, e2]
        exact .reg k1' (opq k2 hs1) (by omega)
    | last L k1 k2 k3 k4 =>
      by_cases eL : i = L
      · subst eL; rw [hcap] at k3; omega
      · have := k4 i hi eL; rw [hcap] at this; omega
    | fin k1 k2 => have := k2 i hi; rw [hcap] at this; omega
  | seen =>
    obtain ⟨k1, k2, _, _⟩ := hm.isLast hi (.inl (by rw [hcap]; rfl))
    exact ⟨lastM (s₁ := 3) (.inr (.inl rfl)) (w3' k1) k2, hr.side (dropV (by omega)) hs, h3⟩
  | zero =>
    obtain ⟨k1, k2, _, _⟩ := hm.isLast hi (.inr (.inl (by rw [hcap]; rfl)))
    exact ⟨lastM (s₁ := 2) (.inr (.inr rfl)) (w3' k1) k2, hr.side (dropV (by omega)) hs, h3⟩
  | sema =>
    obtain ⟨k1, k2, _, _⟩ := hm.isLast hi (.inr (.inr (by rw [hcap]; rfl)))
    have hb := hw rfl rfl
    have e3 : SimP.toC tag' = .w3 := by
      have k := w3' k1
      cases tag' <;> first | rfl | exact absurd rfl hb | exact k.elim
    refine ⟨?_, hr.side (dropV (by omega)) hs, h3⟩
    rw [e3, cap_upd]
    refine .sema fun a ha => ?_
    by_cases e' : a = i
    · subst e'; rw [upd_same]; rfl
    · rw [upd_ne _ _ e']; exact k2 a ha e'
end Go.Proofs.Ytlgfogllkoabpaa.SimP

/-
  The starter's step keeps what the group's cells hold.
-/
namespace Go.Proofs.Ytlgfogllkoabpaa.SimP
open Go.Conc Go.ConcN Go.RowKit Go.Conc.Lib Go.ConcR.Gen Go.ConcN.Gen
open Go.ConcR (KK wgBlock WgAt stA smA rd wr mk DC0 Payload)
set_option linter.unusedVariables false
set_option maxRecDepth 100000

theorem Md.opn {j : Nat} {D : Nat → WD} {tag : Tg} {st sm : Int} (h : Md j D tag st sm) (ho : isOpen (toC tag)) :
    OpenSt j (fun i => cap (D i)) ∧ st = ((Vc j (fun i => cap (D i)) + pendT tag : Nat) : Int) * KK ∧ sm = 0 := by
  obtain ⟨hm, _, _⟩ := h
  rw [← pend_toC]
  generalize toC tag = c at hm ho
  cases hm with
  | opn h1 h2 h3 => exact ⟨h2, rfl, rfl⟩
  | reg h1 => cases c <;> first | exact h1.elim | exact ho.elim
  | last L h1 => cases c <;> first | exact h1.elim | exact ho.elim
  | sema => exact ho.elim
  | fin h1 => cases c <;> first | exact h1.elim | exact ho.elim
theorem Md.fin {j : Nat} {D : Nat → WD} {tag : Tg} {st sm : Int} (h : Md j D tag st sm) (ho : isFin (toC tag)) : AllQuit j (fun i => cap (D i)) ∧ st = 0 ∧ sm = 0 := by
  obtain ⟨hm, _, _⟩ := h
  generalize toC tag = c at hm ho
  cases hm with
  | opn h1 => cases c <;> first | exact h1.elim | exact ho.elim
  | reg h1 => cases c <;> first | exact h1.elim | exact ho.elim
  | last L h1 => cases c <;> first | exact h1.elim | exact ho.elim
  | sema => exact ho.elim
  | fin h1 h2 => exact ⟨h2, rfl, rfl⟩
theorem open_quit {j : Nat} {D : Nat → WD} (h : OpenSt j D) (h0 : Vc j D = 0) : AllQuit j D := fun i hi => by
  have := le_sumTo (f := fun x => cnt (D x)) hi
  have hz : cnt (D i) = 0 := by simp only [Vc] at h0; omega
  have k := h i hi
  by_cases c5 : 5 ≤ (D i).stage
  · simp [cnt, c5] at hz
  · omega

theorem Md.starter {W : World} {j : Nat} {D : Nat → WD} {tag tag' : Tg} {st sm tot st' sm' : Int} {es : Array Event} (h : Md j D tag st sm) (hc : ChgC W (Vc j fun i => cap (D i)) tot tag tag' st sm st' sm' es) : Md j D tag' st' sm' := by
  have hV := Vc_le j (fun i => cap (D i))
  have h3 := h.le3
  have hs := h.side
  have open1 : ∀ {t : Tg}, isOpen (toC tag) → isOpen (toC t) → (∀ vs, toC t ≠ .w2 vs) → pendT t = pendT tag → SimP.side (Vc j fun i => cap (D i)) j t → Md j D t st sm := fun {t} o1 o2 o3 e s => by
    obtain ⟨k1, rfl, rfl⟩ := h.opn o1
    have := ConcN.Mode.opn (tag := toC t) o2 k1 (fun vs e => absurd e (o3 vs))
    rw [pend_toC, e] at this
    exact ⟨this, s, h3⟩
  have fin1 : ∀ {t : Tg}, isFin (toC tag) → isFin (toC t) → SimP.side (Vc j fun i => cap (D i)) j t → Md j D t 0 0 := fun {t} o1 o2 s => ⟨.fin o2 (h.fin o1).1, s, h3⟩
  cases hc with
  | idle => exact h
  | dis => exact open1 trivial trivial (fun vs e => by cases e) rfl ⟨hs.1, fun e => by omega⟩
  | @inc r i s' hs' =>
    obtain ⟨k1, _, _⟩ := h.opn trivial
    have hp : pendT (.sp r i s') = 1 := by subst hs'; simp only [pendT]; split <;> simp
    have := ConcN.Mode.opn (tag := toC (.sp r i s')) trivial k1 (fun vs e => by cases e)
    rw [pend_toC, hp] at this
    exact ⟨this, ⟨hs.1, fun e => by subst hs'; by_cases c : Vc j (fun i => cap (D i)) = 0; exact c; rw [if_neg c] at e; omega⟩, h3⟩
  | rdm => exact open1 trivial trivial (fun vs e => by cases e) rfl ⟨hs.1, fun e => by omega⟩
  | en => exact open1 trivial trivial (fun vs e => by cases e) rfl ⟨hs.1, fun e => by omega⟩
  | kd => exact open1 trivial trivial (fun vs e => by cases e) rfl ⟨by omega, by omega⟩
  | @none k _ _ h0 =>
    obtain ⟨k1, rfl, rfl⟩ := h.opn trivial
    have e0 : ((Vc j (fun i => cap (D i)) + pendT (.w1 k) : Nat) : Int) * KK = 0 := by rw [h0]; simp [pendT]
    rw [e0]
    exact ⟨.fin trivial (open_quit k1 h0), trivial, h3⟩
  | @some k _ _ h1 =>
    obtain ⟨k1, rfl, rfl⟩ := h.opn trivial
    exact ⟨.opn trivial k1 (fun vs e => by cases e; exact ⟨Nat.le_refl _, h1⟩), ⟨hs.1, by have := hs.2; omega⟩, h3⟩
  | hit h1 =>
    obtain ⟨k1, _, rfl⟩ := h.opn trivial
    exact ⟨.reg trivial k1 h1, trivial, h3⟩
  | miss h1 => exact open1 trivial trivial (fun vs e => by cases e) rfl ⟨by have := hs.1; omega, by have := hs.2; omega⟩
  | wrm => exact ⟨h.mode, trivial, h3⟩
  | sleep =>
    have hm := h.mode
    refine ⟨?_, trivial, h3⟩
    cases hm with
    | opn h1 => exact h1.elim
    | reg h1 h2 h4 => exact .reg trivial h2 h4
    | last L h1 h2 h4 h5 => exact .last L trivial h2 h4 h5
    | fin h1 => exact h1.elim
  | up =>
    have hm := h.mode
    generalize e : (0 : Int) = z at hm
    generalize e2 : (1 : Int) = o at hm
    cases hm with
    | opn h1 => exact h1.elim
    | reg h1 h2 h4 => omega
    | last L h1 h2 h4 h5 => omega
    | sema h1 => exact ⟨.fin trivial h1, trivial, h3⟩
    | fin h1 => exact h1.elim
  | rd4 => exact fin1 trivial trivial trivial
  | ken => exact fin1 trivial trivial trivial
  | acq => exact fin1 trivial trivial trivial
  | read => exact fin1 trivial trivial trivial

theorem Md.spawn {j r i m : Nat} {D : Nat → WD} {st sm : Int} (h : Md j D (.sp r i 1) st sm) (hr : r ≠ 0 → j + 1 ≤ 2) : Md (j + 1) (upd D j ⟨8, m, 0⟩) (nextT r i) st sm := by
  obtain ⟨k1, rfl, rfl⟩ := h.opn trivial
  have h2 : j ≤ 2 := h.side.1
  have ev : Vc (j + 1) (fun a => cap (upd D j ⟨8, m, 0⟩ a)) = Vc j (fun a => cap (D a)) + 1 := by
    have e1 : Vc j (fun a => cap (upd D j ⟨8, m, 0⟩ a)) = Vc j (fun a => cap (D a)) := sumTo_congr fun a ha => by simp only [upd_ne D _ (show a ≠ j by omega)]
    have e2 : cnt (cap (upd D j ⟨8, m, 0⟩ j)) = 1 := by rw [upd_same]; rfl
    have e3 : Vc (j + 1) (fun a => cap (upd D j ⟨8, m, 0⟩ a)) = Vc j (fun a => cap (upd D j ⟨8, m, 0⟩ a)) + cnt (cap (upd D j ⟨8, m, 0⟩ j)) := rfl
    omega
  have ho : OpenSt (j + 1) (fun a => cap (upd D j ⟨8, m, 0⟩ a)) := fun a ha => by
    by_cases e : a = j
    · subst e; simp only [upd_same]; exact .inl rfl
    · simp only [upd_ne D _ e]; exact k1 a (by omega)
  have ep : pendT (nextT r i) = 0 := by cases r <;> rfl
  have e : ((Vc j (fun a => cap (D a)) + pendT (.sp r i 1) : Nat) : Int) * KK = ((Vc (j + 1) (fun a => cap (upd D j ⟨8, m, 0⟩ a)) + pend (toC (nextT r i)) : Nat) : Int) * KK := by
    rw [ev, pend_toC, ep]; rfl
  rw [e]
  refine ⟨.opn (by cases r <;> trivial) ho (fun vs e => by cases r <;> cases e), ?_, by omega⟩
  cases r with
  | zero => trivial
  | succ r => exact ⟨hr (by omega), fun e => by omega⟩
end Go.Proofs.Ytlgfogllkoabpaa.SimP

/-
  What the workers have added up.
-/
namespace Go.Proofs.Ytlgfogllkoabpaa.SimP
open Go.Conc Go.ConcN Go.RowKit Go.Conc.Lib Go.ConcR.Gen Go.ConcN.Gen
open Go.ConcR (KK wgBlock WgAt stA smA rd wr mk DC0 Payload)
set_option linter.unusedVariables false
set_option maxRecDepth 100000

def sumI : Nat → (Nat → Int) → Int
  | 0, _ => 0
  | j + 1, f => sumI j f + f j
theorem sumI_congr {f g : Nat → Int} : ∀ {j : Nat}, (∀ i, i < j → f i = g i) → sumI j f = sumI j g
  | 0, _ => rfl
  | j + 1, h => by simp only [sumI]; rw [sumI_congr fun i hi => h i (by omega), h j (by omega)]
theorem sumI_upd {f g : Nat → Int} {i : Nat} (hne : ∀ a, a ≠ i → f a = g a) : ∀ {j : Nat}, i < j → sumI j f + g i = sumI j g + f i
  | j + 1, hi => by
    simp only [sumI]
    by_cases e : j = i
    · subst e
      have := sumI_congr (f := f) (g := g) (j := j) fun a ha => hne a (by omega)
      omega
    · have := sumI_upd hne (j := j) (by omega)
      have := hne j e
      omega
theorem sumI_bound {f : Nat → Int} {c : Int} (h : ∀ i, 0 ≤ f i ∧ f i ≤ c) : ∀ j : Nat, 0 ≤ sumI j f ∧ sumI j f ≤ c * j
  | 0 => by simp [sumI]
  | j + 1 => by
    have := sumI_bound h j
    have := h j
    have e : c * ((j + 1 : Nat) : Int) = c * j + c := by rw [Int.natCast_add, Int.mul_add]; simp
    simp only [sumI]
    omega

def added (d : WD) (x : Int) : Int := if d.stage ≤ 7 then x else 0
/-- What the number holds. -/
def Tot (j : Nat) (D : Nat → WD) (xs : Nat → Int) : Int := sumI j fun i => added (D i) (xs i)

theorem Tot.worker {W : World} {j i s' m' dd' : Nat} {D : Nat → WD} {xs : Nat → Int} {st sm tot st' sm' tot' : Int} {es : Array Event} (h3 : j ≤ 3) (hx : ∀ i, 0 ≤ xs i ∧ xs i ≤ 1020) (ht : tot = Tot j D xs) (hi : i < j)
    (hc : Chg W (xs i) (D i).stage s' st sm tot st' sm' tot' es) : tot' = Tot j (upd D i ⟨s', m', dd'⟩) xs := by
  have hu := sumI_upd (f := fun a => added (upd D i ⟨s', m', dd'⟩ a) (xs a)) (g := fun a => added (D a) (xs a)) (i := i) (fun a ha => by simp only [upd_ne D _ ha]) hi
  have hb := sumI_bound (f := fun a => added (D a) (xs a)) (c := 1020) (fun a => by have := hx a; simp only [added]; split <;> omega) j
  simp only [upd_same] at hu
  have e : Tot j (upd D i ⟨s', m', dd'⟩) xs = tot + added ⟨s', m', dd'⟩ (xs i) - added (D i) (xs i) := by simp only [Tot] at ht ⊢; omega
  rw [e]
  have hxi := hx i
  simp only [Tot] at ht
  generalize hst : (D i).stage = s at hc
  cases hc with
  | add =>
    have c1 : added (⟨7, m', dd'⟩ : WD) (xs i) = xs i := rfl
    have c2 : added (D i) (xs i) = 0 := by simp only [added, hst]; rfl
    rw [c1, c2, IntKind.wrap_i64]
    omega
  | idle => simp only [added, hst]; omega
  | rel => simp only [added, hst]; split <;> omega
  | dis => simp only [added, hst]; split <;> omega
  | @dec _ v wt _ hwt hl hq =>
    have c1 : s' ≤ 7 := by
      by_cases c : v = 0 ∧ wt = 1
      · rw [hl c]; omega
      · rw [hq c]; omega
    simp only [added, hst]
    rw [if_pos c1, if_pos (by omega)]; omega
  | seen => simp only [added, hst]; split <;> omega
  | zero => simp only [added, hst]; split <;> omega
  | sema => simp only [added, hst]; split <;> omega

theorem Tot.spawn {j m : Nat} {D : Nat → WD} {xs : Nat → Int} : Tot (j + 1) (upd D j ⟨8, m, 0⟩) xs = Tot j D xs := by
  have e1 : sumI j (fun a => added (upd D j ⟨8, m, 0⟩ a) (xs a)) = sumI j (fun a => added (D a) (xs a)) := sumI_congr fun a ha => by rw [upd_ne D _ (show a ≠ j by omega)]
  have e2 : added (upd D j ⟨8, m, 0⟩ j) (xs j) = 0 := by rw [upd_same]; rfl
  simp only [Tot, sumI]
  omega
end Go.Proofs.Ytlgfogllkoabpaa.SimP

/-
  The shares' sums, put together.
-/
namespace Go.Proofs.Ytlgfogllkoabpaa.SimP
open Go.Conc Go.ConcN Go.RowKit Go.Conc.Lib Go.ConcR.Gen Go.ConcN.Gen
set_option linter.unusedVariables false

theorem psum_full (b : ByteArray) : psum b b.size = (b.data.toList.map fun x => (x.toNat : Int)).sum := by
  unfold psum
  rw [List.take_of_length_le (by simp)]
theorem psum_ext (b : ByteArray) {i m : Nat} (h1 : i ≤ m) (h2 : m ≤ b.size) : psum (b.extract i m) (b.extract i m).size + psum b i = psum b m := by
  rw [psum_full]
  have e : (b.extract i m).data.toList = (b.data.toList.drop i).take (m - i) := by
    simp [ByteArray.data_extract, List.extract_eq_take_drop]
  rw [e]
  unfold psum
  have e2 : b.data.toList.take m = b.data.toList.take i ++ (b.data.toList.drop i).take (m - i) := by
    rw [← List.take_add, Nat.add_sub_cancel' h1]
  rw [e2, List.map_append, List.sum_append]
  omega
theorem psum_share (b : ByteArray) : ∀ j : Nat, sumI j (fun i => psum (share b (4 * i)) (share b (4 * i)).size) = psum b (min (4 * j) b.size)
  | 0 => by simp [sumI, psum_zero]
  | j + 1 => by
    simp only [sumI]
    rw [psum_share b j]
    by_cases h : 4 * j ≤ b.size
    · have := psum_ext b (i := 4 * j) (m := min (4 * j + 4) b.size) (by omega) (by omega)
      have e1 : min (4 * j) b.size = 4 * j := by omega
      have e2 : min (4 * (j + 1)) b.size = min (4 * j + 4) b.size := by omega
      rw [e1, e2]
      simp only [share]
      omega
    · have e1 : min (4 * j) b.size = b.size := by omega
      have e2 : min (4 * (j + 1)) b.size = b.size := by omega
      have e3 : (share b (4 * j)).size = 0 := by simp only [share, ByteArray.size_extract]; omega
      rw [e1, e2, e3, psum_zero]
      omega
theorem share_size (b : ByteArray) (i : Nat) : (share b i).size ≤ 4 := by simp only [share, ByteArray.size_extract]; omega
end Go.Proofs.Ytlgfogllkoabpaa.SimP

/-
  The phase's trace: all that is touched in it is its own, and atomic, or said by the starter.
-/
namespace Go.Proofs.Ytlgfogllkoabpaa.SimP
open Go.Conc Go.ConcN Go.ConcX Go.RowKit Go.Conc.Lib Go.ConcR.Gen Go.ConcN.Gen
set_option linter.unusedVariables false

/-- The trace while the phase runs. -/
structure Run (Own Shun : Loc → Prop) (B : Nat) (t : Trace) : Prop where
  clean : ∀ said, ¬ Race said t
  known : ∀ i a, touchAt t i = some a → a.loc.isMemory = true → Knows t 0 i ∨ ((Shun a.loc ∨ Own a.loc) ∧ a.kind = .atomic)
  own : ∀ i a, touchAt t i = some a → Own a.loc → a.kind = .atomic ∨ (a.kind = .said ∧ Knows t 0 i)
  seen : ∀ op ∈ t, op.act.low B

section
variable {Own Shun : Loc → Prop} {B : Nat} {t u : Trace}
theorem Run.app {g : Nat} (h : Run Own Shun B t) (hu : ∀ op ∈ u, op.g = g) (hs : ∀ op ∈ u, ∀ x, op.act.touch? = some x → Own x.loc ∧ (x.kind = .atomic ∨ (x.kind = .said ∧ g = 0))) (hl : ∀ op ∈ u, op.act.low B) : Run Own Shun B (t ++ u) := by
  refine ⟨fun said => noRace_append (h.clean said) hu fun i a ha op hop b hb hc => ?_, fun i a ha hm => ?_, fun i a ha ho => ?_, seen_app h.seen hl⟩
  · obtain ⟨hob, hkb⟩ := hs op hop b hb
    obtain ⟨hloc, _, _, hcase⟩ := hc
    rcases h.own i a ha (hloc ▸ hob) with hka | ⟨hka, hkn⟩
    · rcases hkb with hkb | ⟨hkb, _⟩ <;> (rw [hka, hkb] at hcase; rcases hcase with x | x | ⟨_, x, _⟩ <;> cases x)
    · rcases hkb with hkb | ⟨hkb, hg0⟩
      · rw [hka, hkb] at hcase
        rcases hcase with x | x | ⟨_, _, x⟩ <;> cases x
      · exact hg0 ▸ hkn
  · obtain ⟨x, hx, hxa⟩ := touch_of ha
    rcases getElem?_append_cases hx with ⟨_, hx'⟩ | ⟨_, hxu⟩
    · exact (h.known i a (by rw [touchAt_of hx']; exact hxa) hm).imp (·.app u) id
    · have hk := hs x hxu a hxa
      rcases hk.2 with k | ⟨_, k⟩
      · exact .inr ⟨.inr hk.1, k⟩
      · have := knows_own hx
        rw [hu x hxu, k] at this
        exact .inl this
  · obtain ⟨x, hx, hxa⟩ := touch_of ha
    rcases getElem?_append_cases hx with ⟨_, hx'⟩ | ⟨_, hxu⟩
    · exact (h.own i a (by rw [touchAt_of hx']; exact hxa) ho).imp id fun k => ⟨k.1, k.2.app u⟩
    · rcases (hs x hxu a hxa).2 with k | ⟨k, k0⟩
      · exact .inl k
      · have := knows_own hx
        rw [hu x hxu, k0] at this
        exact .inr ⟨k, this⟩
/-- .. or it touches nothing. -/
theorem Run.mute {g : Nat} (h : Run Own Shun B t) (hu : ∀ op ∈ u, op.g = g) (hn : ∀ op ∈ u, op.act.touch? = none) (hl : ∀ op ∈ u, op.act.low B) : Run Own Shun B (t ++ u) :=
  h.app hu (fun op hop x hx => by rw [hn op hop] at hx; cases hx) hl

theorem low_touch {m : MemAct} {x : Touch} (h : m.low B) (hx : m.touch? = some x) : x.loc.low B := by
  cases m with
  | access e => simp only [MemAct.touch?, Option.some.injEq] at hx; subst hx; exact h
  | mark k => cases k <;> simp only [MemAct.touch?, Option.some.injEq] at hx <;> first | (subst hx; exact h) | cases hx
  | _ => simp [MemAct.touch?] at hx

/-- .. which begins where nothing of it was touched. -/
theorem Run.of {B' : Nat} (h : Past Shun B t) (hB : B ≤ B') (hO : ∀ l, Own l → ¬ l.low B) : Run Own Shun B' t := by
  have h' := h.mono hB
  refine ⟨h.clean, fun i a ha hm => (h.known i a ha hm).imp id fun k => ⟨.inl k.1, k.2⟩, fun i a ha ho => ?_, h'.seen⟩
  obtain ⟨x, hx, hxa⟩ := touch_of ha
  have hl := h.seen x (Array.mem_of_getElem? hx)
  exact absurd (low_touch hl hxa) (hO _ ho)

theorem Run.past (h : Run Own Shun B t) (ho : t.HandedOver) (hd : Deaf t 0 = 0) : Past (fun l => Shun l ∨ Own l) B t := ⟨h.clean, h.known, ho, hd, h.seen⟩
end
end Go.Proofs.Ytlgfogllkoabpaa.SimP

/-
  What a step of the phase lists.
-/
namespace Go.Proofs.Ytlgfogllkoabpaa.SimP
open Go.Conc Go.ConcN Go.RowKit Go.Conc.Lib Go.ConcR.Gen Go.ConcN.Gen
open Go.ConcR (KK wgBlock WgAt stA smA rd wr mk DC0 Payload)
set_option linter.unusedVariables false

/-- The cells of the phase's own two blocks. -/
def OwnN (N : Nat) : Loc → Prop := fun l => ∃ a, l = .cell a ∧ (a.block = N ∨ a.block = N + 1)
def EvO (g N : Nat) (e : Event) : Prop := (∀ x, (MemAct.ofEvent e).touch? = some x → OwnN N x.loc ∧ (x.kind = .atomic ∨ (x.kind = .said ∧ g = 0))) ∧ (MemAct.ofEvent e).low (N + 2)

theorem evO_cell {g N : Nat} (a : Addr) (w : Bool) (h : a.block = N ∨ a.block = N + 1) : EvO g N ⟨.cell a, w, true⟩ := by
  refine ⟨fun x hx => ?_, ?_⟩
  · have e : some (⟨.cell a, w, .atomic⟩ : Touch) = some x := hx
    cases e
    exact ⟨⟨a, rfl, h⟩, .inl rfl⟩
  · show a.block < N + 2
    omega
theorem evO_mark {g N : Nat} {m : Mark} (h : (MemAct.ofEvent (mk m)).touch? = none) (hl : (MemAct.ofEvent (mk m)).low (N + 2)) : EvO g N (mk m) := by
  refine ⟨fun x hx => ?_, hl⟩
  rw [h] at hx
  cases hx
theorem all1 {P : Event → Prop} {a : Event} (h : P a) : ∀ e ∈ (#[a] : Array Event), P e := fun e he => by
  rw [Array.mem_singleton] at he
  exact he ▸ h
theorem all2 {P : Event → Prop} {a b : Event} (h : P a) (k : P b) : ∀ e ∈ (#[a, b] : Array Event), P e := fun e he => by
  simp only [List.mem_toArray, List.mem_cons, List.not_mem_nil, or_false] at he
  rcases he with rfl | rfl
  · exact h
  · exact k

theorem Chg.ev {W : World} {x : Int} {s s' : Nat} {st sm tot st' sm' tot' : Int} {es : Array Event} (hc : Chg W x s s' st sm tot st' sm' tot' es) (g : Nat) : ∀ e ∈ es, EvO g W.heap.size e := by
  have r1 : EvO g W.heap.size (rd (stA (W.heap.size + 1))) := evO_cell _ _ (.inr rfl)
  have r2 : EvO g W.heap.size (wr (stA (W.heap.size + 1))) := evO_cell _ _ (.inr rfl)
  have t1 : EvO g W.heap.size (rd (toA W.heap.size)) := evO_cell _ _ (.inl rfl)
  have t2 : EvO g W.heap.size (wr (toA W.heap.size)) := evO_cell _ _ (.inl rfl)
  have s0 : ∀ w, EvO g W.heap.size ⟨.cell (smA (W.heap.size + 1)), w, true⟩ := fun w => evO_cell _ _ (.inr rfl)
  cases hc with
  | idle => exact fun e he => by simp at he
  | add => exact all2 t1 t2
  | rel => exact all1 (evO_mark rfl (Nat.lt_succ_self (W.heap.size + 1)))
  | dis => exact all1 (evO_mark rfl trivial)
  | dec => exact all2 r1 r2
  | seen => exact all1 r1
  | zero => exact all1 r2
  | sema =>
    intro e he
    simp only [semEvents, List.mem_toArray, List.mem_cons, List.not_mem_nil, or_false] at he
    rcases he with rfl | rfl | rfl | rfl
    · exact evO_mark (m := .disable) rfl trivial
    · exact s0 _
    · exact s0 _
    · exact evO_mark (m := .enable) rfl trivial

theorem evO_read {N : Nat} (a : Addr) (h : a.block = N ∨ a.block = N + 1) : EvO 0 N (mk (.read a)) := by
  refine ⟨fun x hx => ?_, ?_⟩
  · have e : some (⟨.cell a, false, .said⟩ : Touch) = some x := hx
    cases e
    exact ⟨⟨a, rfl, h⟩, .inr ⟨rfl, rfl⟩⟩
  · show a.block < N + 2
    omega
theorem evO_write {N : Nat} (a : Addr) (h : a.block = N ∨ a.block = N + 1) : EvO 0 N (mk (.write a)) := by
  refine ⟨fun x hx => ?_, ?_⟩
  · have e : some (⟨.cell a, true, .said⟩ : Touch) = some x := hx
    cases e
    exact ⟨⟨a, rfl, h⟩, .inr ⟨rfl, rfl⟩⟩
  · show a.block < N + 2
    omega

theorem ChgC.ev {W : World} {v : Nat} {tag tag' : Tg} {st sm tot st' sm' : Int} {es : Array Event} (hc : ChgC W v tot tag tag' st sm st' sm' es) : ∀ e ∈ es, EvO 0 W.heap.size e := by
  have r1 : EvO 0 W.heap.size (rd (stA (W.heap.size + 1))) := evO_cell _ _ (.inr rfl)
  have r2 : EvO 0 W.heap.size (wr (stA (W.heap.size + 1))) := evO_cell _ _ (.inr rfl)
  have t1 : EvO 0 W.heap.size (rd (toA W.heap.size)) := evO_cell _ _ (.inl rfl)
  have s0 : ∀ w, EvO 0 W.heap.size ⟨.cell (smA (W.heap.size + 1)), w, true⟩ := fun w => evO_cell _ _ (.inr rfl)
  cases hc with
  | idle => exact fun e he => by simp at he
  | dis => exact all1 (evO_mark rfl trivial)
  | inc => exact all2 r1 r2
  | rdm => exact all1 (evO_read _ (.inr rfl))
  | en => exact all1 (evO_mark rfl trivial)
  | kd => exact all1 (evO_mark rfl trivial)
  | none => exact all1 r1
  | some => exact all1 r1
  | hit => exact all2 r1 r2
  | miss => exact all1 r1
  | wrm => exact all1 (evO_write _ (.inr rfl))
  | sleep => exact fun e he => by simp at he
  | up =>
    intro e he
    simp only [semEvents, List.mem_toArray, List.mem_cons, List.not_mem_nil, or_false] at he
    rcases he with rfl | rfl | rfl | rfl
    · exact evO_mark (m := .disable) rfl trivial
    · exact s0 _
    · exact s0 _
    · exact evO_mark (m := .enable) rfl trivial
  | rd4 => exact all1 r1
  | ken => exact all1 (evO_mark rfl trivial)
  | acq => exact all1 (evO_mark rfl (Nat.lt_succ_self (W.heap.size + 1)))
  | read => exact all1 t1

/-- A step of the phase's keeps the trace. -/
theorem Run.step {Shun : Loc → Prop} {N g : Nat} {t : Trace} {fn : FuncId} {pos : String} {es : Array Event} (h : Run (OwnN N) Shun (N + 2) t) (he : ∀ e ∈ es, EvO g N e) : Run (OwnN N) Shun (N + 2) (t ++ MemOp.ofEvents g fn pos es) :=
  h.app (g := g) (fun op hop => by obtain ⟨e, _, rfl⟩ := Go.Conc.mem_ofEvents hop; rfl) (fun op hop x hx => by obtain ⟨e, h', rfl⟩ := Go.Conc.mem_ofEvents hop; exact (he e h').1 x hx) (fun op hop => by obtain ⟨e, h', rfl⟩ := Go.Conc.mem_ofEvents hop; exact (he e h').2)
end Go.Proofs.Ytlgfogllkoabpaa.SimP

/-
  The handing over at the join: of what was handed over before, and of each worker's.
-/
namespace Go.Proofs.Ytlgfogllkoabpaa.SimP
open Go.Conc Go.ConcN Go.RowKit Go.Conc.Lib Go.ConcR.Gen Go.ConcN.Gen
open Go.ConcR (KK wgBlock WgAt stA smA rd wr mk DC0 Payload)
set_option linter.unusedVariables false

/-- A worker's touch goes before the acquire that follows its release. -/
theorem before_acq {a : Addr} {t : Trace} {g q r i : Nat} (hr : RelBy a t g r) (hrq : r < q) (hn : NoRelease a t) (hq : t.act? q = some (.mark (.acquire a))) (hh : t.heard q) (hgi : t.g? i = some g) (hc : t.counts i) : HappensBefore t i q := by
  have edge : HappensBefore t r q := .single (.inr ⟨.marked hrq (.inr hr.act) hq (fun k _ _ => hn k), hr.heard, hh⟩)
  by_cases e : i = r
  · exact e ▸ edge
  by_cases h : r < i
  · exact absurd hc (hr.after i h hgi)
  · exact .trans (.single (.inl ⟨by omega, g, hgi, hr.g⟩)) edge

theorem over_end {a : Addr} {t u : Trace} {q : Nat} (h0 : t.HandedOver) (hu : ∀ i g, t.size ≤ i → (t ++ u).g? i = some g → g ≠ 0 → (t ++ u).counts i → ∃ r, RelBy a (t ++ u) g r ∧ r < q) (hn : NoRelease a (t ++ u))
    (hq : (t ++ u).act? q = some (.mark (.acquire a))) (hg : (t ++ u).g? q = some 0) (hh : (t ++ u).heard q) : (t ++ u).HandedOver := by
  intro i g hgi hne hc
  by_cases hi : i < t.size
  · obtain ⟨j, hj, hb⟩ := h0 i g (by rw [← hgi]; exact (g?_old hi).symm) hne ((counts_old hi).1 hc)
    have hjl : j < t.size := by
      unfold Trace.g? at hj
      obtain ⟨z, hz, _⟩ := Option.map_eq_some_iff.1 hj
      exact lt_size_of_getElem? hz
    exact ⟨j, by rw [← hj]; exact g?_old hjl, hb_app u hb⟩
  · obtain ⟨r, hr, hrq⟩ := hu i g (by omega) hgi hne hc
    exact ⟨q, hg, before_acq hr hrq hn hq hh hgi hc⟩
end Go.Proofs.Ytlgfogllkoabpaa.SimP

/-
  While the starter sleeps, a worker is at work.
-/
namespace Go.Proofs.Ytlgfogllkoabpaa.SimP
open Go.Conc Go.ConcN Go.RowKit Go.Conc.Lib Go.ConcR.Gen Go.ConcN.Gen
open Go.ConcR (KK wgBlock WgAt stA smA rd wr mk DC0 Payload)
set_option linter.unusedVariables false

theorem Md.runs {j : Nat} {D : Nat → WD} {st sm : Int} (h : Md j D .blk st sm) : ∃ i, i < j ∧ (D i).stage ≠ 1 := by
  have hm := h.mode
  have hc : ∀ i, (cap (D i)).stage = min (D i).stage 7 := fun _ => rfl
  have e0 : toC .blk = .blk := rfl
  rw [e0] at hm
  cases hm with
  | opn h1 => exact h1.elim
  | reg h1 h2 h3 =>
    obtain ⟨i, hi, h5⟩ := exists_counted h3
    have := hc i
    exact ⟨i, hi, by simp only [this] at h5; omega⟩
  | last L h1 h2 h3 h4 =>
    have := hc L
    exact ⟨L, h2, by simp only [this] at h3; omega⟩
  | fin h1 => exact h1.elim
theorem Md.woken {j : Nat} {D : Nat → WD} {st sm : Int} (h : Md j D .blk st sm) : sm = 0 := by
  have hm := h.mode
  have e0 : toC .blk = .blk := rfl
  rw [e0] at hm
  cases hm with
  | opn h1 => exact h1.elim
  | reg h1 h2 h3 => rfl
  | last L h1 h2 h3 h4 => rfl
  | fin h1 => exact h1.elim
end Go.Proofs.Ytlgfogllkoabpaa.SimP

/-
  What holds while the phase runs (its steps: to be shown).
-/
namespace Go.Proofs.Ytlgfogllkoabpaa.SimP
open Go.Conc Go.ConcN Go.RowKit Go.Conc.Lib Go.ConcR.Gen Go.ConcN.Gen
open Go.ConcR (KK wgBlock WgAt stA smA rd wr mk DC0 Payload)
set_option linter.unusedVariables false

/-- What worker number i adds. -/
def xsOf (b : ByteArray) (i : Nat) : Int := psum (share b (4 * i)) (share b (4 * i)).size
theorem xsOf_bound (b : ByteArray) (i : Nat) : 0 ≤ xsOf b i ∧ xsOf b i ≤ 1020 := by
  have := psum_bound (share b (4 * i)) (share b (4 * i)).size
  have := share_size b (4 * i)
  simp only [xsOf]
  omega
/-- How far the starter is. -/
def Far (b : ByteArray) (j : Nat) : Tg → Prop
  | .sp r i _ => i = 4 * j ∧ b.size ≤ i + 4 * (r + 1) ∧ i + 4 * r < b.size
  | _ => b.size ≤ 4 * j

structure PI (W : World) (tT : TypeId) (b : ByteArray) (R : Int → Goroutine → Prop) (Shun : Loc → Prop) (M0 : Nat) (t0 : Trace) (gs : Array Goroutine) (d : Nat) (st sm tot : Int) (j : Nat) (D : Nat → WD) (tag : Tg) (f0 d0 : Nat) (a : Goroutine) (q : Nat → Nat) (u : Trace) : Prop where
  pos : 0 < M0
  size : gs.size = M0 + j
  h0 : gs[0]? = some a
  cs : CS W tT b R tag f0 d0 a (wd W tT lk.tWg d st sm tot)
  deaf0 : Deaf (t0 ++ u) 0 = d0
  wk : ∀ i, i < j → ∃ g, gs[M0 + i]? = some g ∧ WS W tT (xsOf b i) (D i).stage (D i).fuel (D i).deaf g (wd W tT lk.tWg d st sm tot) ∧ (D i).stage ≠ 0
  deafW : ∀ i, i < j → Deaf (t0 ++ u) (M0 + i) = (D i).deaf
  old : ∀ i g, 0 < i → i < M0 → gs[i]? = some g → QuitsD Try.prog (q i) (Deaf (t0 ++ u) i) g
  above : ∀ i, gs.size ≤ i → Deaf (t0 ++ u) i = 0
  md : Md j D tag st sm
  sum : tot = Tot j D (xsOf b)
  far : Far b j tag
  run : Run (OwnN W.heap.size) Shun (W.heap.size + 2) (t0 ++ u)
  rel : ∀ i, i < j → (D i).stage ≤ 6 → ∃ r, RelBy (stA (W.heap.size + 1)) (t0 ++ u) (M0 + i) r
  who : ∀ i g, t0.size ≤ i → (t0 ++ u).g? i = some g → g ≠ 0 → (t0 ++ u).counts i → M0 ≤ g ∧ g < M0 + j
  acq : (tag = .ld ∨ ∃ x, tag = .ret x) → ∃ qq, (t0 ++ u).act? qq = some (.mark (.acquire (stA (W.heap.size + 1)))) ∧ (t0 ++ u).g? qq = some 0 ∧ (t0 ++ u).heard qq ∧ ∀ i, i < j → ∃ r, RelBy (stA (W.heap.size + 1)) (t0 ++ u) (M0 + i) r ∧ r < qq
  val : ∀ x, tag = .ret x → x = tot
  norel : NoRelease (stA (W.heap.size + 1)) (t0 ++ u)

/-- At the end: what the number holds, and the trace. -/
theorem PI.end {W : World} {tT : TypeId} {b : ByteArray} {R : Int → Goroutine → Prop} {Shun : Loc → Prop} {M0 : Nat} {t0 : Trace} {gs : Array Goroutine} {d : Nat} {st sm tot x : Int} {j : Nat} {D : Nat → WD} {f0 d0 : Nat} {a : Goroutine} {q : Nat → Nat} {u : Trace}
    (h : PI W tT b R Shun M0 t0 gs d st sm tot j D (.ret x) f0 d0 a q u) (h0 : t0.HandedOver) : x = psum b b.size ∧ Past (fun l => Shun l ∨ OwnN W.heap.size l) (W.heap.size + 2) (t0 ++ u) := by
  have hq := (h.md.fin trivial).1
  refine ⟨?_, h.run.past ?_ ?_⟩
  · rw [h.val x rfl, h.sum]
    have hf : b.size ≤ 4 * j := h.far
    have e := psum_share b j
    rw [show min (4 * j) b.size = b.size by omega] at e
    rw [← e]
    refine sumI_congr fun i hi => ?_
    have k : (cap (D i)).stage = 1 := hq i hi
    have k2 : (cap (D i)).stage = min (D i).stage 7 := rfl
    simp only [added, xsOf]
    rw [if_pos (by omega)]
  · obtain ⟨qq, h1, h2, h3, h4⟩ := h.acq (.inr ⟨_, rfl⟩)
    refine over_end h0 (fun i g hi hg hne hc => ?_) h.norel h1 h2 h3
    obtain ⟨k1, k2⟩ := h.who i g hi hg hne hc
    obtain ⟨r, hr, hrq⟩ := h4 (g - M0) (by omega)
    rw [show M0 + (g - M0) = g by omega] at hr
    exact ⟨r, hr, hrq⟩
  · rw [h.deaf0]
    have := h.cs
    cases this
    rfl
end Go.Proofs.Ytlgfogllkoabpaa.SimP

/-
  A step of a worker's, or of one that only leaves, keeps what holds while the phase runs, and lowers the measure.
-/
namespace Go.Proofs.Ytlgfogllkoabpaa.SimP
open Go.Conc Go.ConcN Go.RowKit Go.Conc.Lib Go.ConcR.Gen Go.ConcN.Gen
open Go.ConcR (KK wgBlock WgAt stA smA rd wr mk DC0 Payload Bk bk_of_mute ofEvent_loc_mark)
set_option linter.unusedVariables false
set_option linter.unusedSimpArgs false

/-- The measure. -/
def mu (tag : Tg) (j : Nat) (D : Nat → WD) (M0 : Nat) (q : Nat → Nat) (f0 : Nat) : Nat × Nat := (2 * phn tag + sumTo j (fun i => (D i).stage), f0 + 2 * (sumTo j (fun i => (D i).fuel) + sumTo M0 q))

section
variable {W : World} {tT : TypeId} {x : Int}
theorem WS.dd {s m dd : Nat} {g : Goroutine} {w : World} (h : WS W tT x s m dd g w) : (2 ≤ s → s ≤ 5 → dd = 1) ∧ (6 ≤ s → dd = 0) := by
  cases h with
  | t _ => exact ⟨fun _ h => by omega, fun _ => rfl⟩
  | r _ => exact ⟨fun _ h => by omega, fun _ => rfl⟩
  | z h6 h =>
    cases h with
    | r0 _ => omega
    | k1 _ => exact ⟨fun _ h => by omega, fun _ => rfl⟩
    | d1 _ => exact ⟨fun _ _ => rfl, fun h => by omega⟩
    | d2 _ => exact ⟨fun _ _ => rfl, fun h => by omega⟩
    | d3 _ => exact ⟨fun _ _ => rfl, fun h => by omega⟩
    | d4 _ => exact ⟨fun _ _ => rfl, fun h => by omega⟩
    | quit _ => exact ⟨fun h => by omega, fun h => by omega⟩
theorem WS.woken {s m dd : Nat} {g o o' : Goroutine} {w w' : World} (hp : Ph W tT lk.tWg w) (h : WS W tT x s m dd g w) : woken Try.prog o o' w' g = g := by
  by_cases h1 : s = 1
  · subst h1; exact woken_quitsD (WS.quits (s := 0) h)
  · exact woken_run (h.status hp h1)
theorem WS.anyw {s m dd : Nat} {g : Goroutine} {w w' : World} (h1 : s = 1) (h : WS W tT x s m dd g w) : WS W tT x s m dd g w' := by
  subst h1
  exact .z (by omega) (.quit (WS.quits (s := 0) h))
theorem WS.awake {s m dd : Nat} {g : Goroutine} {w : World} (hp : Ph W tT lk.tWg w) (h : WS W tT x s m dd g w) : awake g := by
  by_cases h1 : s = 1
  · subst h1
    exact awake_of ((WS.quits (s := 0) h).status.elim .inl fun k => .inr (.inr k))
  · exact awake_of (.inl (h.status hp h1))

theorem Chg.norel {s s' : Nat} {st sm tot st' sm' tot' : Int} {es : Array Event} (hc : Chg W x s s' st sm tot st' sm' tot' es) (a : Addr) : ∀ e ∈ es, e.loc ≠ .mark (.release a) := by
  cases hc with
  | idle => exact fun e he => by simp at he
  | add => exact all2 (by simp [rd]) (by simp [wr])
  | rel => exact all1 (by simp [mk])
  | dis => exact all1 (by simp [mk])
  | dec => exact all2 (by simp [rd]) (by simp [wr])
  | seen => exact all1 (by simp [rd])
  | zero => exact all1 (by simp [wr])
  | sema =>
    intro e he
    simp only [semEvents, List.mem_toArray, List.mem_cons, List.not_mem_nil, or_false] at he
    rcases he with rfl | rfl | rfl | rfl <;> simp

theorem Chg.ne0 {s s' : Nat} {st sm tot st' sm' tot' : Int} {es : Array Event} (hc : Chg W x s s' st sm tot st' sm' tot' es) (h0 : s ≠ 0) : s' ≠ 0 := by
  cases hc with
  | @dec _ v wt _ hw k1 k2 =>
    by_cases c : v = 0 ∧ wt = 1
    · rw [k1 c]; decide
    · rw [k2 c]; decide
  | _ => first | exact h0 | decide
theorem Chg.sm {s s' : Nat} {st sm tot st' sm' tot' : Int} {es : Array Event} (hc : Chg W x s s' st sm tot st' sm' tot' es) : sm' = sm ∨ s = 2 := by
  cases hc with
  | sema => exact .inr rfl
  | _ => exact .inl rfl
theorem Chg.rel' {s s' k dd : Nat} {st sm tot st' sm' tot' : Int} {es : Array Event} {t : Trace} (hc : Chg W x s s' st sm tot st' sm' tot' es) (hd : (2 ≤ s → s ≤ 5 → dd = 1) ∧ (6 ≤ s → dd = 0)) (hk : Deaf t k = dd)
    (h : s ≤ 6 → ∃ r, RelBy (stA (W.heap.size + 1)) t k r) (fn : FuncId) (pos : String) : s' ≤ 6 → ∃ r, RelBy (stA (W.heap.size + 1)) (t ++ MemOp.ofEvents k fn pos es) k r := by
  intro h6
  have bk1 : ∀ (a : Addr) (w : Bool), a.block = W.heap.size + 1 → Bk (W.heap.size + 1) ⟨.cell a, w, true⟩ := fun a w e => bk_cell a w e
  cases hc with
  | idle =>
    obtain ⟨r, hr⟩ := h h6
    exact ⟨r, hr.book (Wg := W.heap.size + 1) hk fn pos (fun e he => by simp at he) (fun j e he => by simp at he)⟩
  | add => omega
  | rel =>
    rw [hd.2 (by omega)] at hk
    exact ⟨_, RelBy.new hk fn pos⟩
  | dis =>
    obtain ⟨r, hr⟩ := h (by omega)
    exact ⟨r, hr.book (Wg := W.heap.size + 1) hk fn pos (all1 (.inl rfl)) (fun j e he => .inl (by
      have := Array.mem_of_getElem? he
      rw [Array.mem_singleton] at this
      subst this
      rfl))⟩
  | dec =>
    obtain ⟨r, hr⟩ := h (by omega)
    have e1 := hd.1 (by omega) (by omega)
    subst e1
    refine ⟨r, hr.book (Wg := W.heap.size + 1) hk fn pos (all2 (bk1 _ _ rfl) (bk1 _ _ rfl)) (fun j e he => ?_)⟩
    match j, he with
    | 0, _ => exact .inr (by simp [deafBehind])
    | 1, _ => exact .inr (by simp [deafBehind, rd])
    | j + 2, he => simp at he
  | seen =>
    obtain ⟨r, hr⟩ := h (by omega)
    have e1 := hd.1 (by omega) (by omega)
    subst e1
    refine ⟨r, hr.book (Wg := W.heap.size + 1) hk fn pos (all1 (bk1 _ _ rfl)) (fun j e he => ?_)⟩
    match j, he with
    | 0, _ => exact .inr (by simp [deafBehind])
    | j + 1, he => simp at he
  | zero =>
    obtain ⟨r, hr⟩ := h (by omega)
    have e1 := hd.1 (by omega) (by omega)
    subst e1
    refine ⟨r, hr.book (Wg := W.heap.size + 1) hk fn pos (all1 (bk1 _ _ rfl)) (fun j e he => ?_)⟩
    match j, he with
    | 0, _ => exact .inr (by simp [deafBehind])
    | j + 1, he => simp at he
  | sema =>
    obtain ⟨r, hr⟩ := h (by omega)
    have e1 := hd.1 (by omega) (by omega)
    subst e1
    refine ⟨r, hr.book (Wg := W.heap.size + 1) hk fn pos (fun e he => ?_) (fun j e he => ?_)⟩
    · simp only [semEvents, List.mem_toArray, List.mem_cons, List.not_mem_nil, or_false] at he
      rcases he with rfl | rfl | rfl | rfl
      · exact .inl rfl
      · exact bk1 _ _ rfl
      · exact bk1 _ _ rfl
      · exact .inr (.inl rfl)
    · match j, he with
      | 0, he => simp [semEvents] at he; subst he; exact .inl rfl
      | 1, _ => exact .inr (by simp [deafBehind, semEvents])
      | 2, _ => exact .inr (by simp [deafBehind, semEvents])
      | 3, he => simp [semEvents] at he; subst he; exact .inl rfl
      | j + 4, he => simp [semEvents] at he
end

/-- .. or it only says mute words. -/
theorem RelBy.mute {a : Addr} {t : Trace} {k r : Nat} {es : Array Event} (h : RelBy a t k r) (hm : ∀ e ∈ es, Event.mute e = true) (fn : FuncId) (pos : String) : RelBy a (t ++ MemOp.ofEvents k fn pos es) k r :=
  h.appOwn fn pos es fun j e he => .inl (touch_mute (hm e (Array.mem_of_getElem? he)))
theorem evO_mute {g N : Nat} {e : Event} (h : Event.mute e = true) : EvO g N e := ⟨fun x hx => (by rw [touch_mute h] at hx; cases hx), low_mute h _⟩
theorem norel_mute {e : Event} (h : Event.mute e = true) (a : Addr) : e.loc ≠ .mark (.release a) := by
  intro hl
  obtain ⟨loc, wr, sy⟩ := e
  simp only at hl
  subst hl
  simp [Event.mute] at h

section
variable {W : World} {tT : TypeId} {b : ByteArray} {R : Int → Goroutine → Prop}
theorem CS.status {tag : Tg} {f0 d0 : Nat} {a : Goroutine} {w : World} (hR : ∀ x g, R x g → g.status = .running) (hp : Ph W tT lk.tWg w) (h : CS W tT b R tag f0 d0 a w) (hb : tag ≠ .blk) : a.status = .running := by
  have k : ∀ {S : Goroutine → Prop} {n : Nat} {g : Goroutine}, (∀ g, S g → g.status = .running) → GT W tT S n g w → g.status = .running := fun hS h => Goes.running (fun g _ x => hS g x) w hp h
  cases h with
  | skd h => exact k (fun _ x => x.1) h
  | sa1 h => exact k (fun _ x => x.1) h
  | srd h => exact k (fun _ x => x.1) h
  | ske h => exact k (fun _ x => x.1) h
  | sgo h => exact k (fun _ x => x.1) h
  | kd h => exact k (fun _ x => x.1) h
  | @w1 kk _ _ _ h => exact k (fun _ x => by cases kk <;> exact x.1) h
  | w2 h => exact k (fun _ x => x.1) h
  | w2w h => exact k (fun _ x => x.1) h
  | w3 h => exact k (fun _ x => x.1) h
  | blk h => exact absurd rfl hb
  | w4 h => exact k (fun _ x => x.1) h
  | ke h => exact k (fun _ x => x.1) h
  | acq h => exact k (fun _ x => x.1) h
  | ld h => exact k (fun _ x => x.1) h
  | ret h => exact k (hR _) h

/-- The starter behind another one's step: as it was, or let try again. -/
theorem CS.woken {tag : Tg} {f0 d0 : Nat} {a : Goroutine} {w : World} (hR : ∀ x g, R x g → g.status = .running) (hp : Ph W tT lk.tWg w) (h : CS W tT b R tag f0 d0 a w) (g g' : Goroutine) (w' : World) :
    ∃ tag' f0', CS W tT b R tag' f0' d0 (woken Try.prog g g' w' a) w ∧ Retag tag tag' ∧ f0' ≤ f0 + 1 ∧ (mayWake Try.prog g = true → g'.status = .running ∨ g'.status = .finished → tag' ≠ .blk) := by
  by_cases hb : tag = .blk
  · subst hb
    cases h with
    | @blk g0 _ h =>
      by_cases hw : (mayWake Try.prog g && g'.status != .blocked && g'.status != .waiting) = true
      · refine ⟨.w3, 0 + 1, ?_, .inr ⟨rfl, rfl⟩, by omega, fun _ _ => by simp⟩
        have e : Go.Conc.woken Try.prog g g' w' { g0 with status := .blocked } = g0 := by
          unfold Go.Conc.woken
          rw [if_pos hw]
          exact Go.ConcR.again_blocked h.1 h.2.1 w'
        rw [e]
        exact .w3 (Goes.stop fun _ _ => h)
      · refine ⟨.blk, 0, ?_, .inl rfl, by omega, fun h1 h2 => ?_⟩
        · have e : Go.Conc.woken Try.prog g g' w' { g0 with status := .blocked } = { g0 with status := .blocked } := by
            unfold Go.Conc.woken
            rw [if_neg hw]
          rw [e]
          exact .blk h
        · refine absurd ?_ hw
          rcases h2 with h2 | h2 <;> simp [h1, h2]
  · refine ⟨tag, f0, ?_, .inl rfl, by omega, fun _ _ => hb⟩
    rw [woken_run (h.status hR hp hb)]
    exact h
end
theorem Retag.phn {tag tag' : Tg} (h : Retag tag tag') : phn tag' = phn tag := by rcases h with rfl | ⟨rfl, rfl⟩ <;> rfl
theorem Retag.ends {tag tag' : Tg} (h : Retag tag tag') (k : tag' = .ld ∨ ∃ x, tag' = .ret x) : tag' = tag := by
  rcases h with rfl | ⟨rfl, rfl⟩
  · rfl
  · rcases k with k | ⟨x, k⟩ <;> cases k
theorem opsG {g : Nat} {fn : FuncId} {pos : String} {es : Array Event} : ∀ op ∈ MemOp.ofEvents g fn pos es, op.g = g := fun op hop => by
  obtain ⟨e, _, rfl⟩ := Go.Conc.mem_ofEvents hop
  rfl

section
variable {W : World} {tT : TypeId} {b : ByteArray} {R : Int → Goroutine → Prop} {Shun : Loc → Prop} {M0 : Nat} {t0 : Trace} {gs : Array Goroutine} {d : Nat} {st sm tot : Int} {j : Nat} {D : Nat → WD} {tag : Tg} {f0 d0 : Nat} {a : Goroutine} {q : Nat → Nat} {u : Trace} {sl : Option (Nat × Nat)}

/-- What a step of a worker's leaves. -/
theorem PI.wk_step (hR : ∀ x g, R x g → g.status = .running) (h : PI W tT b R Shun M0 t0 gs d st sm tot j D tag f0 d0 a q u) {i : Nat} (hi : i < j) {g g' : Goroutine} {es : Array Event} {s' m' dd' : Nat} {st' sm' tot' : Int} (hg : gs[M0 + i]? = some g)
    (hgo : stepG Try.prog false g (wd W tT lk.tWg d st sm tot) = .go g' (wd W tT lk.tWg d st' sm' tot') es)
    (hws : WS W tT (xsOf b i) s' m' dd' g' (wd W tT lk.tWg d st' sm' tot')) (hs0 : s' ≠ 0) (hsm : sm' = sm ∨ ∀ a, a < j → a ≠ i → (D a).stage = 1) (hdd : deafBehind (D i).deaf es = dd')
    (hev : ∀ e ∈ es, EvO (M0 + i) W.heap.size e) (hnr : ∀ e ∈ es, e.loc ≠ .mark (.release (stA (W.heap.size + 1))))
    (hrel : s' ≤ 6 → ∃ r, RelBy (stA (W.heap.size + 1)) ((t0 ++ u) ++ MemOp.ofEvents (M0 + i) g.frame.fn g.frame.place es) (M0 + i) r)
    (hkeep : (tag = .ld ∨ ∃ x, tag = .ret x) → tot' = tot ∧ ∀ r, RelBy (stA (W.heap.size + 1)) (t0 ++ u) (M0 + i) r → RelBy (stA (W.heap.size + 1)) ((t0 ++ u) ++ MemOp.ofEvents (M0 + i) g.frame.fn g.frame.place es) (M0 + i) r)
    (hmd : ∀ tag', Retag tag tag' → (mayWake Try.prog g = true → g'.status = .running ∨ g'.status = .finished → tag' ≠ .blk) → Md j (upd D i ⟨s', m', dd'⟩) tag' st' sm')
    (htot : tot' = Tot j (upd D i ⟨s', m', dd'⟩) (xsOf b)) (hless : s' < (D i).stage ∨ (s' = (D i).stage ∧ m' < (D i).fuel)) :
    ∃ gs' D' tag' f0' a' ops, runT Try.prog (crowd gs (wd W tT lk.tWg d st sm tot) sl) (M0 + i) = (.next (crowd gs' (wd W tT lk.tWg d st' sm' tot') sl), ops) ∧ PI W tT b R Shun M0 t0 gs' d st' sm' tot' j D' tag' f0' d0 a' q (u ++ ops) ∧ Lt2 (mu tag' j D' M0 q f0') (mu tag j D M0 q f0) := by
  have hp0 : Ph W tT lk.tWg (wd W tT lk.tWg d st sm tot) := ⟨_, _, _, _, rfl⟩
  have hp1 : Ph W tT lk.tWg (wd W tT lk.tWg d st' sm' tot') := ⟨_, _, _, _, rfl⟩
  obtain ⟨tag', f0', hcs', hrt, hf, hwk⟩ := h.cs.woken hR hp0 g g' (wd W tT lk.tWg d st' sm' tot')
  have hpos := h.pos
  have hne0 : (M0 + i == 0) = false := by simp; omega
  have hrun := runT_crowd_go (P := Try.prog) (sl := sl) (i := M0 + i) (w := wd W tT lk.tWg d st sm tot) (w' := wd W tT lk.tWg d st' sm' tot') hg (by rw [hne0]; exact hgo)
  have hlt : M0 + i < gs.size := by rw [h.size]; omega
  have assoc : ∀ v : Trace, t0 ++ (u ++ v) = (t0 ++ u) ++ v := fun v => (Array.append_assoc ..).symm
  have hd0 : ∀ k, k ≠ M0 + i → Deaf ((t0 ++ u) ++ MemOp.ofEvents (M0 + i) g.frame.fn g.frame.place es) k = Deaf (t0 ++ u) k := fun k hk => Deaf_other (t0 ++ u) (g := k) (g' := M0 + i) (Ne.symm hk) _ opsG
  refine ⟨_, upd D i ⟨s', m', dd'⟩, tag', f0', woken Try.prog g g' (wd W tT lk.tWg d st' sm' tot') a, _, hrun, ?_, ?_⟩
  · constructor
    case pos => exact hpos
    case size => simp [h.size]
    case h0 => rw [get_map_set _ _ _ _ (by omega), h.h0]; rfl
    case cs => exact hcs'.rely hp1
    case deaf0 => rw [assoc, hd0 0 (by omega)]; exact h.deaf0
    case wk =>
      intro i' hi'
      by_cases e : i' = i
      · subst e
        refine ⟨g', get_map_set_same _ _ _ hlt, ?_⟩
        rw [upd_same]
        exact ⟨hws, hs0⟩
      · obtain ⟨g2, k1, k2, k3⟩ := h.wk i' hi'
        refine ⟨g2, ?_, ?_⟩
        · rw [get_map_set _ _ _ _ (by omega), k1, Option.map_some, k2.woken hp0]
        · rw [upd_ne D _ e]
          refine ⟨?_, k3⟩
          rcases hsm with rfl | hsm
          · exact k2.rely
          · exact k2.anyw (hsm i' hi' e)
    case deafW =>
      intro i' hi'
      rw [assoc]
      by_cases e : i' = i
      · subst e
        rw [upd_same, Deaf_own, h.deafW i' hi']
        exact hdd
      · rw [upd_ne D _ e, hd0 _ (by omega)]
        exact h.deafW i' hi'
    case old =>
      intro i' g2 k1 k2 k3
      rw [assoc, hd0 _ (by omega)]
      rw [get_map_set _ _ _ _ (by omega)] at k3
      obtain ⟨y, hy, rfl⟩ := Option.map_eq_some_iff.1 k3
      have hq := h.old i' y k1 k2 hy
      rw [woken_quitsD hq]
      exact hq
    case above =>
      intro i' k
      have k' : gs.size ≤ i' := by simpa using k
      rw [assoc, hd0 _ (by omega)]
      exact h.above i' k'
    case md => exact hmd tag' hrt hwk
    case sum => exact htot
    case far => rcases hrt with rfl | ⟨rfl, rfl⟩ <;> exact h.far
    case run => rw [assoc]; exact h.run.step hev
    case rel =>
      intro i' hi' h6
      rw [assoc]
      by_cases e : i' = i
      · subst e
        rw [upd_same] at h6
        exact hrel h6
      · rw [upd_ne D _ e] at h6
        obtain ⟨r, hr⟩ := h.rel i' hi' h6
        exact ⟨r, hr.appOther opsG (by omega)⟩
    case who =>
      intro k g2 k1 k2 k3 k4
      rw [assoc] at k2 k4
      by_cases e : k < (t0 ++ u).size
      · rw [g?_old e] at k2
        exact h.who k g2 k1 k2 k3 ((counts_old e).1 k4)
      · obtain ⟨op, ho, rfl⟩ := Option.map_eq_some_iff.1 k2
        rcases getElem?_append_cases ho with ⟨c, _⟩ | ⟨_, hou⟩
        · omega
        · rw [opsG op hou]; omega
    case acq =>
      intro k
      have e := hrt.ends k
      subst e
      obtain ⟨hto, hkr⟩ := hkeep k
      obtain ⟨qq, h1, h2, h3, h4⟩ := h.acq k
      have hq := lt_of_act? h1
      refine ⟨qq, by rw [assoc, act?_old hq]; exact h1, by rw [assoc, g?_old hq]; exact h2, by rw [assoc]; exact (heard_old hq).2 h3, fun i' hi' => ?_⟩
      obtain ⟨r, hr, hrq⟩ := h4 i' hi'
      refine ⟨r, ?_, hrq⟩
      rw [assoc]
      by_cases e : i' = i
      · subst e; exact hkr r hr
      · exact hr.appOther opsG (by omega)
    case val =>
      intro x k
      have e := hrt.ends (.inr ⟨x, k⟩)
      subst e
      rw [(hkeep (.inr ⟨x, k⟩)).1]
      exact h.val x k
    case norel => rw [assoc]; exact h.norel.app (norel_of hnr)
  · have e2 := sumTo_upd D (⟨s', m', dd'⟩ : WD) WD.stage hi
    have e3 := sumTo_upd D (⟨s', m', dd'⟩ : WD) WD.fuel hi
    simp only at e2 e3
    unfold mu
    rw [hrt.phn]
    rcases hless with h1 | ⟨h1, h2⟩
    · exact Prod.Lex.left _ _ (by omega)
    · have es' : (sumTo j fun a => (upd D i ⟨s', m', dd'⟩ a).stage) = sumTo j fun a => (D a).stage := by omega
      rw [es']
      exact Prod.Lex.right _ (by omega)

/-- A worker at work. -/
theorem PI.work (hR : ∀ x g, R x g → g.status = .running) (h : PI W tT b R Shun M0 t0 gs d st sm tot j D tag f0 d0 a q u) {i : Nat} (hi : i < j) (h1 : (D i).stage ≠ 1) :
    ∃ gs' st' sm' tot' D' tag' f0' a' ops, runT Try.prog (crowd gs (wd W tT lk.tWg d st sm tot) sl) (M0 + i) = (.next (crowd gs' (wd W tT lk.tWg d st' sm' tot') sl), ops) ∧ PI W tT b R Shun M0 t0 gs' d st' sm' tot' j D' tag' f0' d0 a' q (u ++ ops) ∧ Lt2 (mu tag' j D' M0 q f0') (mu tag j D M0 q f0) := by
  obtain ⟨g, hg, hws, h0⟩ := h.wk i hi
  obtain ⟨g', st', sm', tot', es, s', m', hgo, hc, hws', hl, hmw⟩ := hws.step (h.md.fitsW hi h1 h0) h1
  have hfin : ¬ (tag = .ld ∨ ∃ x, tag = .ret x) := by
    intro k
    have ho : isFin (toC tag) := by rcases k with rfl | ⟨x, rfl⟩ <;> trivial
    have := (h.md.fin ho).1 i hi
    have e : (cap (D i)).stage = min (D i).stage 7 := rfl
    rw [e] at this
    omega
  have hs0 : s' ≠ 0 := hc.ne0 h0
  have hsm : sm' = sm ∨ ∀ a, a < j → a ≠ i → (D a).stage = 1 := by
    have hcap : ∀ a, (cap (D a)).stage = min (D a).stage 7 := fun _ => rfl
    rcases hc.sm with e | e
    · exact .inl e
    · obtain ⟨_, k2, _, _⟩ := h.md.mode.isLast hi (.inr (.inr (by show (cap (D i)).stage = 2; rw [hcap, e]; rfl)))
      refine .inr fun a ha hne => ?_
      have := k2 a ha hne
      simp only [hcap] at this
      omega
  obtain ⟨gs', D', tag', f0', a', ops, k1, k2, k3⟩ := h.wk_step (sl := sl) hR hi hg hgo hws' hs0 hsm rfl (hc.ev _) (hc.norel _) (hc.rel' hws.dd (h.deafW i hi) (h.rel i hi) _ _) (fun k => absurd k hfin)
    (fun tag' hrt hwk => h.md.worker hi hc h1 h0 hrt fun e2 e1 => by
      subst e1
      rcases hmw e2 with k | k
      · exact hwk k (WS.quits (s := 0) hws').status
      · omega)
    (Tot.worker h.md.le3 (xsOf_bound b) h.sum hi hc) hl
  exact ⟨gs', st', sm', tot', D', tag', f0', a', ops, k1, k2, k3⟩

theorem Md.same {st sm : Int} {i m' dd' : Nat} (h : Md j D tag st sm) (hi : i < j) {tag' : Tg} (hr : Retag tag tag') : Md j (upd D i ⟨(D i).stage, m', dd'⟩) tag' st sm := by
  obtain ⟨hm, hs, h3⟩ := h
  have hst' : ∀ a, a < j → (cap (upd D i ⟨(D i).stage, m', dd'⟩ a)).stage = (cap (D a)).stage := fun a ha => by
    by_cases e' : a = i
    · subst e'; rw [upd_same]; rfl
    · rw [upd_ne _ _ e']
  have hv : Vc j (fun a => cap (upd D i ⟨(D i).stage, m', dd'⟩ a)) = Vc j (fun a => cap (D a)) := sumTo_congr fun a ha => by simp only [cnt, hst' a ha]
  exact ⟨(hm.congr hst').retag hr.toC, hr.side (by rw [hv]; exact Nat.le_refl _) hs, h3⟩
theorem Tot.same {i m' dd' : Nat} {xs : Nat → Int} (hi : i < j) : Tot j (upd D i ⟨(D i).stage, m', dd'⟩) xs = Tot j D xs := by
  refine sumI_congr fun a ha => ?_
  by_cases e : a = i
  · subst e; rw [upd_same]; rfl
  · rw [upd_ne _ _ e]

/-- A worker that only leaves. -/
theorem PI.leave (hR : ∀ x g, R x g → g.status = .running) (h : PI W tT b R Shun M0 t0 gs d st sm tot j D tag f0 d0 a q u) {i : Nat} (hi : i < j) (h1 : (D i).stage = 1) {g : Goroutine} (hg : gs[M0 + i]? = some g) (hrun : g.status = .running) :
    ∃ gs' D' tag' f0' a' ops, runT Try.prog (crowd gs (wd W tT lk.tWg d st sm tot) sl) (M0 + i) = (.next (crowd gs' (wd W tT lk.tWg d st sm tot) sl), ops) ∧ PI W tT b R Shun M0 t0 gs' d st sm tot j D' tag' f0' d0 a' q (u ++ ops) ∧ Lt2 (mu tag' j D' M0 q f0') (mu tag j D M0 q f0) := by
  obtain ⟨g2, hg2, hws, _⟩ := h.wk i hi
  rw [hg] at hg2
  cases hg2
  rw [h1] at hws
  have hq := WS.quits (s := 0) hws
  generalize hfu : (D i).fuel = m at hq
  cases m with
  | zero => rw [hq.1] at hrun; cases hrun
  | succ k =>
    rcases hq with ⟨hf, _⟩ | ⟨_, g', es, hm, hstp, hq'⟩
    · rw [hf] at hrun; cases hrun
    · obtain ⟨gs', D', tag', f0', a', ops, k1, k2, k3⟩ := h.wk_step (sl := sl) (s' := (D i).stage) (m' := k) (dd' := deafBehind (D i).deaf es) hR hi hg (hstp _) (by rw [h1]; exact .z (by omega) (.quit hq')) (by omega) (.inl rfl) rfl (fun e he => evO_mute (hm e he)) (fun e he => norel_mute (hm e he) _)
        (fun h6 => by obtain ⟨r, hr⟩ := h.rel i hi h6; exact ⟨r, RelBy.mute hr hm _ _⟩) (fun _ => ⟨rfl, fun r hr => RelBy.mute hr hm _ _⟩) (fun tag' hrt _ => h.md.same hi hrt) (by rw [Tot.same hi]; exact h.sum) (.inr ⟨rfl, by omega⟩)
      exact ⟨gs', D', tag', f0', a', ops, k1, k2, k3⟩

/-- One that was there before, and only leaves. -/
theorem PI.older (hR : ∀ x g, R x g → g.status = .running) (h : PI W tT b R Shun M0 t0 gs d st sm tot j D tag f0 d0 a q u) {p : Nat} (hp : 0 < p) (hpM : p < M0) {g : Goroutine} (hg : gs[p]? = some g) (hrun : g.status = .running) :
    ∃ gs' tag' f0' a' q' ops, runT Try.prog (crowd gs (wd W tT lk.tWg d st sm tot) sl) p = (.next (crowd gs' (wd W tT lk.tWg d st sm tot) sl), ops) ∧ PI W tT b R Shun M0 t0 gs' d st sm tot j D tag' f0' d0 a' q' (u ++ ops) ∧ Lt2 (mu tag' j D M0 q' f0') (mu tag j D M0 q f0) := by
  have hp0 : Ph W tT lk.tWg (wd W tT lk.tWg d st sm tot) := ⟨_, _, _, _, rfl⟩
  have hq := h.old p g hp hpM hg
  generalize hfu : q p = m at hq
  cases m with
  | zero => rw [hq.1] at hrun; cases hrun
  | succ k =>
    rcases hq with ⟨hf, _⟩ | ⟨_, g', es, hm, hstp, hq'⟩
    · rw [hf] at hrun; cases hrun
    obtain ⟨tag', f0', hcs', hrt, hf, hwk⟩ := h.cs.woken hR hp0 g g' (wd W tT lk.tWg d st sm tot)
    have hne0 : (p == 0) = false := by simp; omega
    have hrun := runT_crowd_go (P := Try.prog) (sl := sl) (i := p) (w := wd W tT lk.tWg d st sm tot) (w' := wd W tT lk.tWg d st sm tot) hg (by rw [hne0]; exact hstp _)
    have hlt : p < gs.size := by rw [h.size]; omega
    have assoc : ∀ v : Trace, t0 ++ (u ++ v) = (t0 ++ u) ++ v := fun v => (Array.append_assoc ..).symm
    have hd0 : ∀ k, k ≠ p → Deaf ((t0 ++ u) ++ MemOp.ofEvents p g.frame.fn g.frame.place es) k = Deaf (t0 ++ u) k := fun k hk => Deaf_other (t0 ++ u) (g := k) (g' := p) (Ne.symm hk) _ opsG
    refine ⟨_, tag', f0', woken Try.prog g g' (wd W tT lk.tWg d st sm tot) a, upd q p k, _, hrun, ?_, ?_⟩
    · constructor
      case pos => exact h.pos
      case size => simp [h.size]
      case h0 => rw [get_map_set _ _ _ _ (by omega), h.h0]; rfl
      case cs => exact hcs'.rely hp0
      case deaf0 => rw [assoc, hd0 0 (by omega)]; exact h.deaf0
      case wk =>
        intro i' hi'
        obtain ⟨g2, k1, k2, k3⟩ := h.wk i' hi'
        refine ⟨g2, ?_, k2, k3⟩
        rw [get_map_set _ _ _ _ (by omega), k1, Option.map_some, k2.woken hp0]
      case deafW =>
        intro i' hi'
        rw [assoc, hd0 _ (by omega)]
        exact h.deafW i' hi'
      case old =>
        intro i' g2 k1 k2 k3
        rw [assoc]
        by_cases e : i' = p
        · subst e
          rw [get_map_set_same _ _ _ hlt] at k3
          cases k3
          rw [upd_same, Deaf_own]
          exact hq'
        · rw [hd0 _ e, upd_ne q k e]
          rw [get_map_set _ _ _ _ (Ne.symm e)] at k3
          obtain ⟨y, hy, rfl⟩ := Option.map_eq_some_iff.1 k3
          have hq := h.old i' y k1 k2 hy
          rw [woken_quitsD hq]
          exact hq
      case above =>
        intro i' k
        have k' : gs.size ≤ i' := by simpa using k
        rw [assoc, hd0 _ (by omega)]
        exact h.above i' k'
      case md =>
        have hm := h.md
        exact ⟨hm.mode.retag hrt.toC, hrt.side (Nat.le_refl _) hm.side, hm.le3⟩
      case sum => exact h.sum
      case far => rcases hrt with rfl | ⟨rfl, rfl⟩ <;> exact h.far
      case run => rw [assoc]; exact h.run.step fun e he => evO_mute (hm e he)
      case rel =>
        intro i' hi' h6
        rw [assoc]
        obtain ⟨r, hr⟩ := h.rel i' hi' h6
        exact ⟨r, hr.appOther opsG (by omega)⟩
      case who =>
        intro k g2 k1 k2 k3 k4
        rw [assoc] at k2 k4
        by_cases e : k < (t0 ++ u).size
        · rw [g?_old e] at k2
          exact h.who k g2 k1 k2 k3 ((counts_old e).1 k4)
        · obtain ⟨op, ho, hog⟩ := Option.map_eq_some_iff.1 k2
          rcases getElem?_append_cases ho with ⟨c, _⟩ | ⟨_, hou⟩
          · omega
          · exfalso
            obtain ⟨x, hx, _, _⟩ := k4
            obtain ⟨act, hact, hxt⟩ := Option.bind_eq_some_iff.1 hx
            obtain ⟨op2, ho2, rfl⟩ := Option.map_eq_some_iff.1 hact
            rw [ho] at ho2
            cases ho2
            obtain ⟨e, he, rfl⟩ := Go.Conc.mem_ofEvents hou
            simp only [touch_mute (hm e he)] at hxt
            cases hxt
      case acq =>
        intro k
        have e := hrt.ends k
        subst e
        obtain ⟨qq, h1, h2, h3, h4⟩ := h.acq k
        have hq := lt_of_act? h1
        refine ⟨qq, by rw [assoc, act?_old hq]; exact h1, by rw [assoc, g?_old hq]; exact h2, by rw [assoc]; exact (heard_old hq).2 h3, fun i' hi' => ?_⟩
        obtain ⟨r, hr, hrq⟩ := h4 i' hi'
        refine ⟨r, ?_, hrq⟩
        rw [assoc]
        exact hr.appOther opsG (by omega)
      case val =>
        intro x k
        have e := hrt.ends (.inr ⟨x, k⟩)
        subst e
        exact h.val x k
      case norel => rw [assoc]; exact h.norel.app (norel_of fun e he => norel_mute (hm e he) _)
    · have e3 : sumTo M0 (upd q p k) + (k + 1) = sumTo M0 q + k := by
        have := sumTo_upd q k id hpM
        simpa [hfu] using this
      unfold mu
      rw [hrt.phn]
      exact Prod.Lex.right _ (by omega)
end
end Go.Proofs.Ytlgfogllkoabpaa.SimP

/-
  A step of the starter's, or the start of a worker, keeps what holds while the phase runs, and lowers the measure.
-/
namespace Go.Proofs.Ytlgfogllkoabpaa.SimP
open Go.Conc Go.ConcN Go.RowKit Go.Conc.Lib Go.ConcR.Gen Go.ConcN.Gen
open Go.ConcR (KK wgBlock WgAt stA smA rd wr DC0 Payload Bk bk_of_mute ofEvent_loc_mark)
set_option linter.unusedVariables false
set_option linter.unusedSimpArgs false

theorem ChgC.norel {W : World} {v : Nat} {tag tag' : Tg} {st sm tot st' sm' : Int} {es : Array Event} (hc : ChgC W v tot tag tag' st sm st' sm' es) (a : Addr) : ∀ e ∈ es, e.loc ≠ .mark (.release a) := by
  cases hc with
  | idle => exact fun e he => by simp at he
  | dis => exact all1 (by simp [Go.ConcR.mk])
  | inc => exact all2 (by simp [rd]) (by simp [wr])
  | rdm => exact all1 (by simp [Go.ConcR.mk])
  | en => exact all1 (by simp [Go.ConcR.mk])
  | kd => exact all1 (by simp [Go.ConcR.mk])
  | none => exact all1 (by simp [rd])
  | some => exact all1 (by simp [rd])
  | hit => exact all2 (by simp [rd]) (by simp [wr])
  | miss => exact all1 (by simp [rd])
  | wrm => exact all1 (by simp [Go.ConcR.mk])
  | sleep => exact fun e he => by simp at he
  | up =>
    intro e he
    simp only [semEvents, List.mem_toArray, List.mem_cons, List.not_mem_nil, or_false] at he
    rcases he with rfl | rfl | rfl | rfl <;> simp
  | rd4 => exact all1 (by simp [rd])
  | ken => exact all1 (by simp [Go.ConcR.mk])
  | acq => exact all1 (by simp [Go.ConcR.mk])
  | read => exact all1 (by simp [rd])

theorem ChgC.sm {W : World} {v : Nat} {tag tag' : Tg} {st sm tot st' sm' : Int} {es : Array Event} (hc : ChgC W v tot tag tag' st sm st' sm' es) : sm' = sm ∨ (tag = .w3 ∧ st = 0 ∧ sm = 1) := by
  cases hc with
  | up => exact .inr ⟨rfl, rfl, rfl⟩
  | _ => exact .inl rfl
theorem Md.allq {j : Nat} {D : Nat → WD} {tag : Tg} {st sm : Int} (h : Md j D tag st sm) (e1 : tag = .w3) (e2 : st = 0) (e3 : sm = 1) : AllQuit j (fun i => cap (D i)) := by
  subst e1
  have hm := h.mode
  generalize e : toC .w3 = c at hm
  cases hm with
  | opn h1 => omega
  | reg h1 => omega
  | last L h1 => omega
  | sema h1 => exact h1
  | fin h1 h2 => exact h2

section
variable {W : World} {tT : TypeId} {b : ByteArray} {R : Int → Goroutine → Prop} {Shun : Loc → Prop} {M0 : Nat} {t0 : Trace} {gs : Array Goroutine} {d : Nat} {st sm tot : Int} {j : Nat} {D : Nat → WD} {tag : Tg} {f0 d0 : Nat} {a : Goroutine} {q : Nat → Nat} {u : Trace} {sl : Option (Nat × Nat)}

theorem ChgC.far {v : Nat} {tag' : Tg} {st' sm' : Int} {es : Array Event} (hc : ChgC W v tot tag tag' st sm st' sm' es) (h : Far b j tag) : Far b j tag' := by cases hc <;> exact h

theorem PI.starter (h : PI W tT b R Shun M0 t0 gs d st sm tot j D tag f0 d0 a q u) {tag' : Tg} {m' : Nat} {a' : Goroutine} {es : Array Event} {st' sm' : Int}
    (hgo : stepG Try.prog true a (wd W tT lk.tWg d st sm tot) = .go a' (wd W tT lk.tWg d st' sm' tot) es) (hc : ChgC W (Vc j fun i => cap (D i)) tot tag tag' st sm st' sm' es)
    (hcs : CS W tT b R tag' m' (deafBehind d0 es) a' (wd W tT lk.tWg d st' sm' tot)) (hless : phn tag' < phn tag ∨ (phn tag' = phn tag ∧ m' < f0)) :
    ∃ gs' ops, runT Try.prog (crowd gs (wd W tT lk.tWg d st sm tot) sl) 0 = (.next (crowd gs' (wd W tT lk.tWg d st' sm' tot) sl), ops) ∧ PI W tT b R Shun M0 t0 gs' d st' sm' tot j D tag' m' (deafBehind d0 es) a' q (u ++ ops) ∧ Lt2 (mu tag' j D M0 q m') (mu tag j D M0 q f0) := by
  have hp0 : Ph W tT lk.tWg (wd W tT lk.tWg d st sm tot) := ⟨_, _, _, _, rfl⟩
  have hpos := h.pos
  have hrun := runT_crowd_go (P := Try.prog) (sl := sl) (i := 0) (w := wd W tT lk.tWg d st sm tot) (w' := wd W tT lk.tWg d st' sm' tot) h.h0 (show stepG Try.prog (0 == 0) a _ = _ from hgo)
  have hlt : 0 < gs.size := by rw [h.size]; omega
  have assoc : ∀ v : Trace, t0 ++ (u ++ v) = (t0 ++ u) ++ v := fun v => (Array.append_assoc ..).symm
  have hd0 : ∀ k, k ≠ 0 → Deaf ((t0 ++ u) ++ MemOp.ofEvents 0 a.frame.fn a.frame.place es) k = Deaf (t0 ++ u) k := fun k hk => Deaf_other (t0 ++ u) (g := k) (g' := 0) (Ne.symm hk) _ opsG
  have hkeepR : ∀ i' r, RelBy (stA (W.heap.size + 1)) (t0 ++ u) (M0 + i') r → RelBy (stA (W.heap.size + 1)) ((t0 ++ u) ++ MemOp.ofEvents 0 a.frame.fn a.frame.place es) (M0 + i') r := fun i' r hr => hr.appOther opsG (by omega)
  have hsm : sm' = sm ∨ ∀ a, a < j → (D a).stage = 1 := by
    have hcap : ∀ a, (cap (D a)).stage = min (D a).stage 7 := fun _ => rfl
    rcases hc.sm with e | ⟨e1, e2, e3⟩
    · exact .inl e
    · refine .inr fun a ha => ?_
      have := h.md.allq e1 e2 e3 a ha
      rw [hcap] at this
      omega
  refine ⟨_, _, hrun, ?_, ?_⟩
  · constructor
    case pos => exact hpos
    case size => simp [h.size]
    case h0 => exact get_map_set_same _ _ _ hlt
    case cs => exact hcs
    case deaf0 => rw [assoc, Deaf_own, h.deaf0]
    case wk =>
      intro i' hi'
      obtain ⟨g2, k1, k2, k3⟩ := h.wk i' hi'
      refine ⟨g2, ?_, ?_, k3⟩
      · rw [get_map_set _ _ _ _ (by omega), k1, Option.map_some, k2.woken hp0]
      · rcases hsm with rfl | hsm
        · exact k2.rely
        · exact k2.anyw (hsm i' hi')
    case deafW =>
      intro i' hi'
      rw [assoc, hd0 _ (by omega)]
      exact h.deafW i' hi'
    case old =>
      intro i' g2 k1 k2 k3
      rw [assoc, hd0 _ (by omega)]
      rw [get_map_set _ _ _ _ (by omega)] at k3
      obtain ⟨y, hy, rfl⟩ := Option.map_eq_some_iff.1 k3
      have hq := h.old i' y k1 k2 hy
      rw [woken_quitsD hq]
      exact hq
    case above =>
      intro i' k
      have k' : gs.size ≤ i' := by simpa using k
      rw [assoc, hd0 _ (by omega)]
      exact h.above i' k'
    case md => exact h.md.starter hc
    case sum => exact h.sum
    case far => exact hc.far h.far
    case run => rw [assoc]; exact h.run.step hc.ev
    case rel =>
      intro i' hi' h6
      rw [assoc]
      obtain ⟨r, hr⟩ := h.rel i' hi' h6
      exact ⟨r, hkeepR i' r hr⟩
    case who =>
      intro k g2 k1 k2 k3 k4
      rw [assoc] at k2 k4
      by_cases e : k < (t0 ++ u).size
      · rw [g?_old e] at k2
        exact h.who k g2 k1 k2 k3 ((counts_old e).1 k4)
      · obtain ⟨op, ho, rfl⟩ := Option.map_eq_some_iff.1 k2
        rcases getElem?_append_cases ho with ⟨c, _⟩ | ⟨_, hou⟩
        · omega
        · exact absurd (opsG op hou) k3
    case acq =>
      intro k
      have old : (tag = .ld ∨ ∃ x, tag = .ret x) → ∃ qq, (t0 ++ (u ++ MemOp.ofEvents 0 a.frame.fn a.frame.place es)).act? qq = some (.mark (.acquire (stA (W.heap.size + 1)))) ∧ (t0 ++ (u ++ MemOp.ofEvents 0 a.frame.fn a.frame.place es)).g? qq = some 0 ∧ (t0 ++ (u ++ MemOp.ofEvents 0 a.frame.fn a.frame.place es)).heard qq ∧ ∀ i, i < j → ∃ r, RelBy (stA (W.heap.size + 1)) (t0 ++ (u ++ MemOp.ofEvents 0 a.frame.fn a.frame.place es)) (M0 + i) r ∧ r < qq := by
        intro k
        obtain ⟨qq, h1, h2, h3, h4⟩ := h.acq k
        have hq := lt_of_act? h1
        refine ⟨qq, by rw [assoc, act?_old hq]; exact h1, by rw [assoc, g?_old hq]; exact h2, by rw [assoc]; exact (heard_old hq).2 h3, fun i' hi' => ?_⟩
        obtain ⟨r, hr, hrq⟩ := h4 i' hi'
        exact ⟨r, by rw [assoc]; exact hkeepR i' r hr, hrq⟩
      cases hc with
      | idle => exact old k
      | read => exact old (.inl rfl)
      | acq =>
        have hcs0 := h.cs
        have hd00 : d0 = 0 := by cases hcs0; rfl
        subst hd00
        have e1 : MemOp.ofEvents 0 a.frame.fn a.frame.place #[Go.ConcR.mk (.acquire (stA (W.heap.size + 1)))] = #[{ g := 0, fn := a.frame.fn, pos := a.frame.place, act := .mark (.acquire (stA (W.heap.size + 1))) }] := by rw [ofEvents_eq]; simp [Go.ConcR.ofEvent_mk]
        rw [e1] at hkeepR ⊢
        rw [assoc]
        have hdz : Deaf (t0 ++ u) 0 = 0 := h.deaf0
        have hrl : ∀ i', i' < j → ∃ r, RelBy (stA (W.heap.size + 1)) (t0 ++ u) (M0 + i') r := fun i' hi' => by
          have hq := (h.md.fin (show isFin (toC .acq) from trivial)).1 i' hi'
          have e : (cap (D i')).stage = min (D i').stage 7 := rfl
          rw [e] at hq
          exact h.rel i' hi' (by omega)
        generalize t0 ++ u = t at hdz hrl hkeepR ⊢
        have hy : (t ++ #[({ g := 0, fn := a.frame.fn, pos := a.frame.place, act := .mark (.acquire (stA (W.heap.size + 1))) } : MemOp)])[t.size]? = some { g := 0, fn := a.frame.fn, pos := a.frame.place, act := .mark (.acquire (stA (W.heap.size + 1))) } := by simp
        refine ⟨t.size, by rw [act?_of hy], by simp [Trace.g?], ⟨0, by simp [Trace.g?], by rw [deaf_old (Nat.le_refl _)]; exact hdz⟩, fun i' hi' => ?_⟩
        obtain ⟨r, hr⟩ := hrl i' hi'
        exact ⟨r, hkeepR i' r hr, lt_of_act? hr.act⟩
      | _ => first | (rcases k with k | ⟨x, k⟩ <;> cases k; done)
    case val =>
      intro x k
      cases hc with
      | idle => exact h.val x k
      | read => cases k; rfl
      | _ => first | (cases k; done)
    case norel => rw [assoc]; exact h.norel.app (norel_of (hc.norel _))
  · unfold mu
    rcases hless with h1 | ⟨h1, h2⟩
    · exact Prod.Lex.left _ _ (by omega)
    · rw [h1]
      exact Prod.Lex.right _ (by omega)

/-- The start of a worker. -/
theorem PI.spawn (hb : b.size ≤ 12) {r i : Nat} (h : PI W tT b R Shun M0 t0 gs d st sm tot j D (.sp r i 1) f0 0 a q u) {m' : Nat} {a' : Goroutine}
    (hgo : stepG Try.prog true a (wd W tT lk.tWg d st sm tot) = .spawn a' (born Try.prog (dW W (share b i))) (wd W tT lk.tWg d st sm tot) #[]) (hcs : CS W tT b R (nextT r i) m' 0 a' (wd W tT lk.tWg d st sm tot)) :
    ∃ gs' D' ops, runT Try.prog (crowd gs (wd W tT lk.tWg d st sm tot) sl) 0 = (.next (crowd gs' (wd W tT lk.tWg d st sm tot) sl), ops) ∧ PI W tT b R Shun M0 t0 gs' d st sm tot (j + 1) D' (nextT r i) m' 0 a' q (u ++ ops) ∧ Lt2 (mu (nextT r i) (j + 1) D' M0 q m') (mu (.sp r i 1) j D M0 q f0) := by
  have hp0 : Ph W tT lk.tWg (wd W tT lk.tWg d st sm tot) := ⟨_, _, _, _, rfl⟩
  have hpos := h.pos
  have hsz := h.size
  obtain ⟨e4, hf1, hf2⟩ : i = 4 * j ∧ b.size ≤ i + 4 * (r + 1) ∧ i + 4 * r < b.size := h.far
  have hrun := runT_crowd_spawn (P := Try.prog) (sl := sl) (i := 0) (w := wd W tT lk.tWg d st sm tot) (w' := wd W tT lk.tWg d st sm tot) h.h0 (show stepG Try.prog (0 == 0) a _ = _ from hgo)
  have hlt : 0 < gs.size := by rw [h.size]; omega
  obtain ⟨m, hw⟩ := worker_walk (W := W) (tT := tT) (share b i) (share_size b i)
  have hnew : WS W tT (xsOf b j) 8 m 0 (born Try.prog (dW W (share b i))) (wd W tT lk.tWg d st sm tot) := by
    unfold xsOf
    rw [← e4]
    exact .t (hw _ hp0)
  have e0 : MemOp.ofEvents 0 a.frame.fn a.frame.place #[] = #[] := by simp [ofEvents_eq]
  rw [e0] at hrun
  generalize hx : ({ g := 0, fn := a.frame.fn, pos := a.frame.place, act := .go gs.size } : MemOp) = x at hrun
  generalize hy : ({ g := gs.size, fn := (born Try.prog (dW W (share b i))).frame.fn, pos := a.frame.place, act := .start } : MemOp) = y at hrun
  have e2 : ((#[] : Array MemOp).push x).push y = #[x, y] := rfl
  simp only [e2] at hrun
  have hxg : x.g = 0 ∧ x.act = .go gs.size := by rw [← hx]; exact ⟨rfl, rfl⟩
  have hyg : y.g = gs.size ∧ y.act = .start := by rw [← hy]; exact ⟨rfl, rfl⟩
  clear hx hy
  have hm : ∀ op ∈ #[x, y], op = x ∨ op = y := by intro op hop; simpa using hop
  have hst : ∀ op ∈ #[x, y], op.act ≠ .mark .disable ∧ op.act ≠ .mark .enable := by
    intro op hop
    rcases hm op hop with rfl | rfl
    · rw [hxg.2]; exact ⟨by simp, by simp⟩
    · rw [hyg.2]; exact ⟨by simp, by simp⟩
  have assoc : ∀ v : Trace, t0 ++ (u ++ v) = (t0 ++ u) ++ v := fun v => (Array.append_assoc ..).symm
  have hd0 : ∀ k, Deaf ((t0 ++ u) ++ #[x, y]) k = Deaf (t0 ++ u) k := fun k => Deaf_still (t0 ++ u) k _ hst
  have hnc : ∀ k, (t0 ++ u).size ≤ k → ¬ ((t0 ++ u) ++ #[x, y]).counts k := by
    intro k hk hc
    obtain ⟨z, hz, _, _⟩ := hc
    obtain ⟨act, hact, hxt⟩ := Option.bind_eq_some_iff.1 hz
    obtain ⟨op2, ho2, rfl⟩ := Option.map_eq_some_iff.1 hact
    rcases getElem?_append_cases ho2 with ⟨c, _⟩ | ⟨_, hou⟩
    · omega
    · rcases hm op2 hou with rfl | rfl
      · rw [hxg.2] at hxt; cases hxt
      · rw [hyg.2] at hxt; cases hxt
  have hkeepR : ∀ i' r, RelBy (stA (W.heap.size + 1)) (t0 ++ u) (M0 + i') r → RelBy (stA (W.heap.size + 1)) ((t0 ++ u) ++ #[x, y]) (M0 + i') r := fun i' r hr => hr.app fun k hk _ => hnc k hk
  have getOld : ∀ k g2, k ≠ 0 → k < gs.size → gs[k]? = some g2 → ((gs.setIfInBounds 0 a').push (born Try.prog (dW W (share b i))))[k]? = some g2 := by
    intro k g2 h1 h2 h3
    rw [Array.getElem?_push_lt (by simpa using h2), ← Array.getElem?_eq_getElem, Array.getElem?_setIfInBounds_ne (Ne.symm h1)]
    exact h3
  refine ⟨_, upd D j ⟨8, m, 0⟩, _, hrun, ?_, ?_⟩
  · constructor
    case pos => exact hpos
    case size => simp [hsz]; omega
    case h0 => rw [Array.getElem?_push_lt (by simpa using hlt)]; simp [hlt]
    case cs => exact hcs
    case deaf0 => rw [assoc, hd0]; exact h.deaf0
    case wk =>
      intro i' hi'
      by_cases e : i' = j
      · subst e
        refine ⟨born Try.prog (dW W (share b i)), ?_, ?_⟩
        · rw [← hsz, show gs.size = (gs.setIfInBounds 0 a').size by simp]
          exact Array.getElem?_push_size
        · rw [upd_same]
          exact ⟨hnew, by simp⟩
      · obtain ⟨g2, k1, k2, k3⟩ := h.wk i' (by omega)
        refine ⟨g2, getOld _ _ (by omega) (by omega) k1, ?_⟩
        rw [upd_ne D _ e]
        exact ⟨k2, k3⟩
    case deafW =>
      intro i' hi'
      rw [assoc, hd0]
      by_cases e : i' = j
      · subst e
        rw [upd_same, ← hsz]
        exact h.above _ (Nat.le_refl _)
      · rw [upd_ne D _ e]
        exact h.deafW i' (by omega)
    case old =>
      intro i' g2 k1 k2 k3
      rw [assoc, hd0]
      refine h.old i' g2 k1 k2 ?_
      rw [Array.getElem?_push_lt (by simp; omega), ← Array.getElem?_eq_getElem, Array.getElem?_setIfInBounds_ne (by omega)] at k3
      exact k3
    case above =>
      intro i' k
      have k' : gs.size + 1 ≤ i' := by simpa using k
      rw [assoc, hd0]
      exact h.above i' (by omega)
    case md => exact h.md.spawn fun hr => by omega
    case sum => rw [Tot.spawn]; exact h.sum
    case far =>
      cases r with
      | zero => show b.size ≤ 4 * (j + 1); omega
      | succ r => exact ⟨by omega, by omega, by omega⟩
    case run =>
      rw [assoc]
      have e : (t0 ++ u) ++ #[x, y] = ((t0 ++ u) ++ #[x]) ++ #[y] := by apply Array.ext'; simp
      rw [e]
      refine (h.run.mute (g := 0) (u := #[x]) (fun op hop => ?_) (fun op hop => ?_) (fun op hop => ?_)).mute (g := gs.size) (u := #[y]) (fun op hop => ?_) (fun op hop => ?_) (fun op hop => ?_)
      all_goals rw [Array.mem_singleton] at hop; subst hop
      · exact hxg.1
      · rw [hxg.2]; rfl
      · rw [hxg.2]; trivial
      · exact hyg.1
      · rw [hyg.2]; rfl
      · rw [hyg.2]; trivial
    case rel =>
      intro i' hi' h6
      rw [assoc]
      by_cases e : i' = j
      · subst e
        rw [upd_same] at h6
        have : (8 : Nat) ≤ 6 := h6
        omega
      · rw [upd_ne D _ e] at h6
        obtain ⟨r, hr⟩ := h.rel i' (by omega) h6
        exact ⟨r, hkeepR i' r hr⟩
    case who =>
      intro k g2 k1 k2 k3 k4
      rw [assoc] at k2 k4
      by_cases e : k < (t0 ++ u).size
      · rw [g?_old e] at k2
        have := h.who k g2 k1 k2 k3 ((counts_old e).1 k4)
        omega
      · exact absurd k4 (hnc k (by omega))
    case acq =>
      intro k
      cases r <;> rcases k with k | ⟨x, k⟩ <;> cases k
    case val =>
      intro x k
      cases r <;> cases k
    case norel =>
      rw [assoc]
      refine h.norel.app fun op hop => ?_
      rcases hm op hop with rfl | rfl
      · rw [hxg.2]; simp
      · rw [hyg.2]; simp
  · unfold mu
    refine Prod.Lex.left _ _ ?_
    have e1 : (sumTo (j + 1) fun a => (upd D j ⟨8, m, 0⟩ a).stage) = (sumTo j fun a => (D a).stage) + 8 := by
      have k1 : (sumTo j fun a => (upd D j ⟨8, m, 0⟩ a).stage) = sumTo j fun a => (D a).stage := sumTo_congr fun a ha => by rw [upd_ne D _ (show a ≠ j by omega)]
      have k2 : (upd D j ⟨8, m, 0⟩ j).stage = 8 := by rw [upd_same]
      show (sumTo j fun a => (upd D j ⟨8, m, 0⟩ a).stage) + (upd D j ⟨8, m, 0⟩ j).stage = _
      omega
    rw [e1]
    cases r <;> simp only [nextT, phn] <;> omega
end
end Go.Proofs.Ytlgfogllkoabpaa.SimP
