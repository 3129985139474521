/-
  The phase, from the function's entry to its return, beside goroutines that only leave.
-/
import Derived.Test.YtlgfogllkoabpaaCrL
import Derived.Test.YtlgfogllkoabpaaSimE
namespace Go.Proofs.Ytlgfogllkoabpaa.SimP
open Go.Conc Go.ConcN Go.RowKit Go.Conc.Lib Go.ConcR.Gen Go.ConcN.Gen
open Go.ConcR (KK wgBlock WgAt stA smA rd wr mk DC0 Payload Bk)
set_option linter.unusedVariables false
set_option linter.unusedSimpArgs false

section
variable {W : World} {tT : TypeId} {b : ByteArray} {R : Int → Goroutine → Prop} {Shun : Loc → Prop} {M0 : Nat} {t0 : Trace} {gs : Array Goroutine} {d : Nat} {st sm tot : Int} {j : Nat} {D : Nat → WD} {tag : Tg} {f0 d0 : Nat} {a : Goroutine} {q : Nat → Nat} {u : Trace} {sl : Option (Nat × Nat)}

theorem PI.at (h : PI W tT b R Shun M0 t0 gs d st sm tot j D tag f0 d0 a q u) (d' : Nat) : PI W tT b R Shun M0 t0 gs d' st sm tot j D tag f0 d0 a q u :=
  { h with
    cs := h.cs.rely ⟨_, _, _, _, rfl⟩
    wk := fun i hi => let ⟨g, k1, k2, k3⟩ := h.wk i hi; ⟨g, k1, k2.rely, k3⟩ }
theorem PI.blk (h : PI W tT b R Shun M0 t0 gs d st sm tot j D .blk f0 d0 a q u) : a.status = .blocked := by
  have := h.cs
  cases this
  rfl
theorem PI.awake (hR : ∀ x g, R x g → g.status = .running) (h : PI W tT b R Shun M0 t0 gs d st sm tot j D tag f0 d0 a q u) : ∀ g ∈ gs, awake g := by
  have hp0 : Ph W tT lk.tWg (wd W tT lk.tWg d st sm tot) := ⟨_, _, _, _, rfl⟩
  intro g hg
  obtain ⟨i, hi⟩ := Array.mem_iff_getElem?.1 hg
  by_cases c0 : i = 0
  · subst c0
    rw [h.h0] at hi
    cases hi
    by_cases hb : tag = .blk
    · subst hb; exact awake_of (.inr (.inl h.blk))
    · exact awake_of (.inl (h.cs.status hR hp0 hb))
  · by_cases c : i < M0
    · exact awake_of ((h.old i g (by omega) c hi).status.elim .inl fun k => .inr (.inr k))
    · have hlt := (Array.getElem?_eq_some_iff.1 hi).1
      rw [h.size] at hlt
      obtain ⟨g2, k1, k2, _⟩ := h.wk (i - M0) (by omega)
      rw [show M0 + (i - M0) = i by omega, hi] at k1
      cases k1
      exact k2.awake hp0
theorem PI.someone (hR : ∀ x g, R x g → g.status = .running) (h : PI W tT b R Shun M0 t0 gs d st sm tot j D tag f0 d0 a q u) : ∃ (i : Nat) (g : Goroutine), gs[i]? = some g ∧ g.status = .running := by
  have hp0 : Ph W tT lk.tWg (wd W tT lk.tWg d st sm tot) := ⟨_, _, _, _, rfl⟩
  by_cases hb : tag = .blk
  · subst hb
    obtain ⟨i, hi, h1⟩ := h.md.runs
    obtain ⟨g, k1, k2, _⟩ := h.wk i hi
    exact ⟨_, g, k1, k2.status hp0 h1⟩
  · exact ⟨0, a, h.h0, h.cs.status hR hp0 hb⟩

/-- What holds, the measure named. -/
def Inv2 (W : World) (tT : TypeId) (b : ByteArray) (R : Int → Goroutine → Prop) (Shun : Loc → Prop) (M0 : Nat) (t0 : Trace) (μ : Nat × Nat) (m : Machine) (t : Trace) : Prop :=
  ∃ gs d st sm tot j D tag f0 d0 a q u sl, m = crowd gs (wd W tT lk.tWg d st sm tot) sl ∧ t = t0 ++ u ∧ PI W tT b R Shun M0 t0 gs d st sm tot j D tag f0 d0 a q u ∧ μ = mu tag j D M0 q f0

theorem PI.next (hR : ∀ x g, R x g → g.status = .running) (hb : b.size ≤ 12) (h : PI W tT b R Shun M0 t0 gs d st sm tot j D tag f0 d0 a q u) :
    (∃ x, tag = .ret x ∧ R x a) ∨ ∃ m' ops μ', stepT Try.prog (crowd gs (wd W tT lk.tWg d st sm tot) sl) = (.next m', ops) ∧ Lt2 μ' (mu tag j D M0 q f0) ∧ Inv2 W tT b R Shun M0 t0 μ' m' ((t0 ++ u) ++ ops) := by
  obtain ⟨i, g, d', sl', hg, hrun, hstep⟩ := crowd_pick (P := Try.prog) (w := wd W tT lk.tWg d st sm tot) (sl := sl) (h.awake hR) (h.someone hR)
  have h' := h.at d'
  have hstep' : stepT Try.prog (crowd gs (wd W tT lk.tWg d st sm tot) sl) = runT Try.prog (crowd gs (wd W tT lk.tWg d' st sm tot) sl') i := hstep
  rw [hstep']
  by_cases c0 : i = 0
  · subst c0
    rw [h.h0] at hg
    cases hg
    have hnb : tag ≠ .blk := by
      rintro rfl
      rw [h.blk] at hrun
      cases hrun
    rcases h'.cs.step (h'.md.fits hnb) hnb with ⟨a', st', sm', es, tag', m', hgo, hc, hcs, hl⟩ | ⟨r, i, rfl, a', m', hgo, hcs⟩ | hret
    · obtain ⟨gs', ops, k1, k2, k3⟩ := h'.starter (sl := sl') hgo hc hcs hl
      exact .inr ⟨_, ops, _, k1, k3, gs', d', st', sm', tot, j, D, tag', m', _, a', q, u ++ ops, sl', rfl, (Array.append_assoc ..), k2, rfl⟩
    · have hd0 : d0 = 0 := by
        have := h'.cs
        cases this
        rfl
      subst hd0
      obtain ⟨gs', D', ops, k1, k2, k3⟩ := h'.spawn (sl := sl') hb hgo hcs
      exact .inr ⟨_, ops, _, k1, k3, gs', d', st, sm, tot, j + 1, D', _, m', _, a', q, u ++ ops, sl', rfl, (Array.append_assoc ..), k2, rfl⟩
    · exact .inl hret
  · by_cases c : i < M0
    · obtain ⟨gs', tag', f0', a', q', ops, k1, k2, k3⟩ := h'.older (sl := sl') hR (by omega) c hg hrun
      exact .inr ⟨_, ops, _, k1, k3, gs', d', st, sm, tot, j, D, tag', f0', _, a', q', u ++ ops, sl', rfl, (Array.append_assoc ..), k2, rfl⟩
    · have hlt := (Array.getElem?_eq_some_iff.1 hg).1
      rw [h.size] at hlt
      obtain ⟨i', rfl⟩ : ∃ i', i = M0 + i' := ⟨i - M0, by omega⟩
      have hi' : i' < j := by omega
      by_cases h1 : (D i').stage = 1
      · obtain ⟨gs', D', tag', f0', a', ops, k1, k2, k3⟩ := h'.leave (sl := sl') hR hi' h1 hg hrun
        exact .inr ⟨_, ops, _, k1, k3, gs', d', st, sm, tot, j, D', tag', f0', _, a', q, u ++ ops, sl', rfl, (Array.append_assoc ..), k2, rfl⟩
      · obtain ⟨gs', st', sm', tot', D', tag', f0', a', ops, k1, k2, k3⟩ := h'.work (sl := sl') hR hi' h1
        exact .inr ⟨_, ops, _, k1, k3, gs', d', st', sm', tot', j, D', tag', f0', _, a', q, u ++ ops, sl', rfl, (Array.append_assoc ..), k2, rfl⟩

theorem phase_runs (hR : ∀ x g, R x g → g.status = .running) (hb : b.size ≤ 12) : ∀ (μ : Nat × Nat) (m : Machine) (t : Trace), Inv2 W tT b R Shun M0 t0 μ m t →
    ∃ N gs d st sm tot j D x f0 d0 a q u sl, runNT Try.prog N m t = (.next (crowd gs (wd W tT lk.tWg d st sm tot) sl), t0 ++ u) ∧ PI W tT b R Shun M0 t0 gs d st sm tot j D (.ret x) f0 d0 a q u ∧ R x a := by
  intro μ
  induction μ using (Prod.lex Nat.lt_wfRel Nat.lt_wfRel).wf.induction with
  | _ μ ih =>
    rintro m t ⟨gs, d, st, sm, tot, j, D, tag, f0, d0, a, q, u, sl, rfl, rfl, hI, rfl⟩
    rcases hI.next (sl := sl) hR hb with ⟨x, rfl, hx⟩ | ⟨m', ops, μ', hs, hl, hI'⟩
    · exact ⟨0, gs, d, st, sm, tot, j, D, x, f0, d0, a, q, u, sl, rfl, hI, hx⟩
    · obtain ⟨N, gs, d, st, sm, tot, j, D, x, f0, d0, a, q, u, sl, k1, k2, k3⟩ := ih μ' hl m' _ hI'
      exact ⟨N + 1, gs, d, st, sm, tot, j, D, x, f0, d0, a, q, u, sl, by simp only [runNT, hs]; exact k1, k2, k3⟩

theorem norel_past {B : Nat} {t : Trace} (h : Past Shun B t) (hB : B ≤ W.heap.size) : NoRelease (stA (W.heap.size + 1)) t := by
  intro i hi
  obtain ⟨op, ho, hoa⟩ := Option.map_eq_some_iff.1 hi
  have := h.seen op (Array.mem_of_getElem? ho)
  rw [hoa] at this
  have k : W.heap.size + 1 < B := this
  omega

/-- What holds where the starter's loop begins. -/
theorem PI.init (hb : b.size ≤ 12) {r : Nat} (h1 : b.size ≤ 4 * r) (h2 : 0 < r → 4 * (r - 1) < b.size) {n : Nat} {w : World} (h0 : gs[0]? = some a) (hL : Leavers Try.prog t0 gs q) (hP : Past Shun W.heap.size t0) (hw : w = wd W tT lk.tWg d 0 0 0)
    (hG : GT W tT (SRun W tT b R r 0) n a w) : ∃ tag, PI W tT b R Shun gs.size t0 gs d 0 0 0 0 (fun _ => ⟨0, 0, 0⟩) tag n 0 a q #[] := by
  subst hw
  have e0 : t0 ++ (#[] : Trace) = t0 := Array.append_empty
  have hlt : 0 < gs.size := (Array.getElem?_eq_some_iff.1 h0).1
  have mode : ∀ tag, isOpen tag → pend tag = 0 → (∀ vs, tag ≠ .w2 vs) → ConcN.Mode 0 (fun _ => cap (⟨0, 0, 0⟩ : WD)) tag 0 0 := fun tag h1 h2 h3 => by
    have := ConcN.Mode.opn (j := 0) (D := fun _ => cap (⟨0, 0, 0⟩ : WD)) h1 (fun i hi => by omega) (fun vs e => absurd e (h3 vs))
    simpa [Vc, sumTo, h2] using this
  have hO : ∀ l, OwnN W.heap.size l → ¬ l.low W.heap.size := by
    rintro l ⟨a, rfl, ha⟩ hl
    have : a.block < W.heap.size := hl
    omega
  have gen : ∀ tag, CS W tT b R tag n 0 a (wd W tT lk.tWg d 0 0 0) → Md 0 (fun _ => ⟨0, 0, 0⟩) tag 0 0 → Far b 0 tag → (∀ x, tag ≠ .ret x) → tag ≠ .ld → PI W tT b R Shun gs.size t0 gs d 0 0 0 0 (fun _ => ⟨0, 0, 0⟩) tag n 0 a q #[] := by
    intro tag k1 k2 k3 k4 k5
    constructor
    case pos => exact hlt
    case size => rfl
    case h0 => exact h0
    case cs => exact k1
    case deaf0 => rw [e0]; exact hP.hears
    case wk => intro i hi; omega
    case deafW => intro i hi; omega
    case old => intro i g p1 p2 p3; rw [e0]; exact hL.old i g p1 p3
    case above => intro i hi; rw [e0]; exact hL.above i hi
    case md => exact k2
    case sum => rfl
    case far => exact k3
    case run => rw [e0]; exact Run.of hP (by omega) hO
    case rel => intro i hi; omega
    case who =>
      intro i g p1 p2
      rw [e0] at p2
      obtain ⟨op, ho, _⟩ := Option.map_eq_some_iff.1 p2
      have := lt_size_of_getElem? ho
      omega
    case acq => rintro (k | ⟨x, k⟩); exact absurd k k5; exact absurd k (k4 x)
    case val => intro x k; exact absurd k (k4 x)
    case norel => rw [e0]; exact norel_past hP (Nat.le_refl _)
  cases r with
  | zero => exact ⟨.kd, gen .kd (.kd hG) ⟨mode .kd trivial rfl (fun vs e => by cases e), trivial, by omega⟩ (show b.size ≤ 4 * 0 by omega) (fun x e => by cases e) (fun e => by cases e)⟩
  | succ r =>
    have := h2 (by omega)
    exact ⟨.sp r 0 5, gen (.sp r 0 5) (.skd hG) ⟨mode (.sp r 5) trivial rfl (fun vs e => by cases e), ⟨by omega, fun e => by cases e⟩, by omega⟩ ⟨rfl, by omega, by omega⟩ (fun x e => by cases e) (fun e => by cases e)⟩
end

/-- The sum of all bytes. -/
def valSum (args : Array Value) : Value := match args.toList with | [.string b] => .int .i64 (psum b b.size) | _ => undef
def preSum (args : Array Value) : Prop := ∃ b : ByteArray, args = #[.string b] ∧ b.size ≤ 12

/-- (C): THE PHASE. -/
theorem phase : PhaseOf Try.prog 18 preSum valSum 53 60 := by
  rintro Shun gs p sl t qq fr cs _ ⟨b, rfl, hb⟩ hmr h0 hL hP
  obtain ⟨N1, gs1, a1, w1, sl1, t1, q1, hr1, hs1, h01, ⟨d, hw1, ha1⟩, hL1, hP1⟩ := walk_beside (P := Try.prog) (fun _ _ _ h => h) _ _ gs _ p sl t qq (Nat.le_refl _) h0 hL hP (start_pre (EvL Shun p.heap.size) b p fr cs)
  have hR : ∀ x g, Rt fr cs x g → g.status = .running := by
    rintro x g rfl
    rfl
  obtain ⟨n, hn⟩ := start_loop (W := p) (tT := 53) (fr := fr) (cs := cs) b hb ((b.size + 3) / 4) 0 (by omega) (by omega) undef undef undef undef undef undef undef undef undef undef undef undef undef undef undef undef undef undef undef
  have hG : GT p 53 (SRun p 53 b (Rt fr cs) ((b.size + 3) / 4) 0) n a1 w1 := by
    rw [ha1]
    exact hn w1 ⟨_, _, _, _, hw1⟩
  obtain ⟨tag, hI⟩ := PI.init hb (by omega) (by omega) h01 hL1 hP1 hw1 hG
  obtain ⟨N2, gs2, d2, st, sm, tot, j, D, x, f0, d0, a, q, u, sl2, k1, k2, k3⟩ := phase_runs hR hb _ (crowd gs1 w1 sl1) t1 ⟨gs1, d, 0, 0, 0, 0, _, tag, n, 0, a1, q1, #[], sl1, by rw [hw1], (Array.append_empty).symm, hI, rfl⟩
  obtain ⟨hx, hpast⟩ := k2.end hP1.over
  have hsz : (wd p 53 lk.tWg d2 st sm tot).heap.size = p.heap.size + 2 := by simp [wd]
  have hq := (k2.md.fin (show isFin (toC (.ret x)) from trivial)).1
  refine ⟨N1 + N2, gs2, wd p 53 lk.tWg d2 st sm tot, sl2, t1 ++ u, fun i => if i < gs1.size then q i else (D (i - gs1.size)).fuel, #[.int .i64 tot], #[.int .u64 st, .int .u32 sm], ?_, ?_, ⟨fun i g p1 p2 => ?_, k2.above⟩, ?_, rfl, rfl, rfl, rfl⟩
  · rw [runNT_add, hr1]
    exact k1
  · rw [k2.h0, k3, hx]
    rfl
  · by_cases c : i < gs1.size
    · simp only [if_pos c]
      exact k2.old i g p1 c p2
    · simp only [if_neg c]
      have hlt := (Array.getElem?_eq_some_iff.1 p2).1
      rw [k2.size] at hlt
      obtain ⟨g2, j1, j2, _⟩ := k2.wk (i - gs1.size) (by omega)
      have hdf := k2.deafW (i - gs1.size) (by omega)
      rw [show gs1.size + (i - gs1.size) = i by omega] at j1 hdf
      rw [p2] at j1
      cases j1
      have h1 : (cap (D (i - gs1.size))).stage = 1 := hq _ (by omega)
      have e : (cap (D (i - gs1.size))).stage = min (D (i - gs1.size)).stage 7 := rfl
      have h1' : (D (i - gs1.size)).stage = 1 := by omega
      rw [h1'] at j2
      rw [hdf]
      exact WS.quits (s := 0) j2
  · rw [hsz]
    exact hpast
end Go.Proofs.Ytlgfogllkoabpaa.SimP
