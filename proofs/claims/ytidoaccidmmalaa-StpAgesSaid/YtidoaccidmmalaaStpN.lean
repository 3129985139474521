/-
  What a tree tells; that it forgets, and forwards in time.
-/
import Derived.Test.YtidoaccidmmalaaStpK
import Derived.Test.YtidoaccidmmalaaPortR
namespace Go.Proofs.Ytidoaccidmmalaa.StpP
open Go.RowKit Go.Sort Go.Proofs.Ytidoaccidmmalaa.SliceP Go.Proofs.Ytidoaccidmmalaa.BoxP Go.Proofs.Ytidoaccidmmalaa.VecP Go.Proofs.Ytidoaccidmmalaa.RoleP
open Go.Proofs.Ytidoaccidmmalaa.PortP (okS roleS tickS leftS ok_iff ok_role ok_tick left_tick left_role)
set_option linter.unusedVariables false
set_option maxRecDepth 100000
section
variable {t : T}
theorem tells_form' {s : S} (p : Int) : s.tells p = ⟨(s.tells 0).r, (s.tells 0).c, s.id, p⟩ := by unfold S.tells; cases s.root <;> rfl
theorem root_ways' {s : S} : s.root = none ∧ s.rootI = -1 ∧ s.age = 0 ∨ ∃ b, s.root = some b ∧ s.rootI = (b : Int) ∧ b < s.infos.length ∧ s.age = (s.info b).age + 1 := by
  cases h : s.root with
  | none => exact .inl ⟨rfl, by unfold S.rootI; rw [h]; rfl, by unfold S.age; rw [h]⟩
  | some b => exact .inr ⟨b, rfl, by unfold S.rootI; rw [h]; rfl, (root_lt h).1, by unfold S.age; rw [h]⟩
/-- What goes out, one by one. -/
theorem send_facts {k : Nat} {x : Snd} (h : x ∈ t.send k) : x.v = ⟨(t.self.tells 0).r, (t.self.tells 0).c, t.self.id, k⟩ ∧ x.age = t.self.age ∧ t.self.age < t.mx ∧ x.port = k ∧ (k : Int) ≠ t.self.rootI := by
  unfold T.send at h
  by_cases ht : t.self.tell k t.mx = true
  · rw [if_pos ht] at h
    obtain rfl : x = _ := by simpa using h
    have h2 := ht
    unfold S.tell at h2
    simp only [Bool.and_eq_true, decide_eq_true_eq] at h2
    have hup := told_up h2.1
    refine ⟨?_, ?_, h2.2, rfl, fun e => hup.2 ?_⟩
    · show t.self.told k t.mx = _
      unfold S.told; rw [if_pos ht]; exact tells_form' _
    · show t.self.toldAge k t.mx = _
      unfold S.toldAge; rw [if_pos ht]
    · unfold S.rootI at e
      cases hr : t.self.root with
      | none => rw [hr] at e; have e : (k : Int) = -1 := e; omega
      | some b => rw [hr] at e; have e : (k : Int) = (b : Int) := e; rw [show b = k by omega]
  · rw [if_neg ht] at h; cases h
theorem sends_facts {x : Snd} (h : x ∈ t.sends) : x.v.r = (t.self.tells 0).r ∧ x.v.c = (t.self.tells 0).c ∧ x.v.b = t.self.id ∧ x.age = t.self.age ∧ t.self.age < t.mx ∧ x.port ≠ t.self.rootI := by
  unfold T.sends at h
  obtain ⟨k, hk, hx⟩ := List.mem_flatMap.1 h
  obtain ⟨h1, h2, h3, h4, h5⟩ := send_facts hx
  rw [h1]
  exact ⟨rfl, rfl, rfl, h2, h3, by rw [h4]; exact h5⟩
/-- All that a port knows is so old. -/
def Old (j : Int) (t : T) : Prop := ∀ p, (t.self.info p).has = true → j ≤ (t.self.info p).age
theorem tick_info (h : t.ok = true) (p : Nat) : t.tick.self.info p = aged t.mx (t.self.info p) := by
  show t.aged.self.info p = _
  exact aged_info p (ok_headT h).2.2.1
theorem info_far {s : S} {p : Nat} (h : s.infos.length ≤ p) : s.info p = N0 := by
  unfold S.info; rw [List.getD_eq_getElem?_getD, List.getElem?_eq_none h]; rfl
theorem old_zero (h : t.ok = true) : Old 0 t := fun p hp => by
  obtain ⟨h1, h2, _, _⟩ := ok_headT h
  by_cases hl : p < t.self.costs.length
  · exact (ok_info h1 hl).1.1
  · rw [info_far (by have := (head_iff.1 (ok_head h1)).2.2.2; omega)] at hp; cases hp
theorem old_tick {j : Int} (h : t.ok = true) (k : Old j t) : Old (j + 1) t.tick := fun p hp => by
  obtain ⟨h1, h2, h3, h4⟩ := ok_headT h
  rw [tick_info h] at hp ⊢
  have hx : (t.self.info p).ok (t.self.up p) = true := by
    by_cases hl : p < t.self.costs.length
    · exact (ok_port h1 hl).2.2
    · rw [info_far (by have := (head_iff.1 (ok_head h1)).2.2.2; omega)]; exact n0_ok _
  obtain ⟨_, _, q⟩ := aged_n hx h3 h4
  obtain ⟨q1, q2, _⟩ := q hp
  have := k p q1
  omega
theorem old_none (h : t.ok = true) (k : Old t.mx t) (p : Nat) : t.self.info p = N0 := by
  obtain ⟨h1, h2, h3, h4⟩ := ok_headT h
  by_cases hl : p < t.self.costs.length
  · cases hh : (t.self.info p).has with
    | false => exact (ok_info h1 hl).2.2 hh
    | true =>
      have := k p hh
      have := (ok_portT h (p := p) (by omega)).2.2
      omega
  · exact info_far (by have := (head_iff.1 (ok_head h1)).2.2.2; omega)
def Blank (t : T) : Prop := ∀ p, t.self.info p = N0
theorem blank_tick (h : t.ok = true) (k : Blank t) : Blank t.tick := fun p => by
  rw [tick_info h, k p]
  unfold aged older
  simp
theorem blank_has (k : Blank t) (p : Nat) : (t.self.info p).has = false := by rw [k p]
theorem blank_act (k : Blank t) (p : Nat) : t.act p = t.self.up p := by
  unfold T.act actI
  rw [blank_role (blank_has k)]
  cases t.self.up p <;> simp
/-- So long till it forwards, at most. -/
def Near (i : Int) (t : T) : Prop := ∀ p, p < t.states.length → t.self.up p = true → leftS (t.st p).1 (t.st p).2 t.dl ≤ i
theorem left_bd {s l d : Int} (h : okS s l d = true) : 0 ≤ leftS s l d ∧ leftS s l d ≤ 2 * d ∧ (leftS s l d ≤ 0 → s = 3) := by
  obtain ⟨⟨d1, d2⟩, h⟩ := ok_iff.1 h
  unfold leftS
  rcases h with ⟨rfl, rfl⟩ | ⟨rfl, h1, h2⟩ | ⟨rfl, h1, h2⟩ | ⟨rfl, rfl⟩
  · simp; omega
  · simp; omega
  · simp; omega
  · simp; omega
theorem near_zero (h : t.ok = true) : Near (2 * t.dl) t := fun p hp _ => (left_bd (ok_portT h hp).1).2.1
theorem tick_left {s l d : Int} (h : okS s l d = true) (h0 : s ≠ 0) : leftS (tickS s l d).1 (tickS s l d).2 d ≤ leftS s l d - 1 ∨ leftS (tickS s l d).1 (tickS s l d).2 d = 0 := by
  by_cases h3 : s = 3
  · subst h3
    right
    unfold tickS leftS; simp
  · exact .inl (by have := (left_tick h h0 h3).1; omega)
theorem near_tick {i : Int} (h : t.ok = true) (hb : Blank t) (k : Near i t) (hi : 1 ≤ i) : Near (i - 1) t.tick := fun p hp hup => by
  have hpa := aged_pre h
  have hs := settle_ok hpa
  have hb' : Blank t.aged.settle := fun q => by have := blank_tick h hb q; exact this
  have hl : p < t.states.length := by
    have : t.tick.states.length = t.states.length := by show (t.aged.settle.ticked).states.length = _; rw [ticked_len, settle_len]; rfl
    omega
  have hl2 : p < t.aged.settle.states.length := by rw [settle_len]; exact hl
  show leftS (t.aged.settle.ticked.st p).1 (t.aged.settle.ticked.st p).2 t.dl ≤ i - 1
  rw [ticked_st hl2]
  have hok := (ok_portT hs hl2).1
  have hact : t.aged.settle.act p = true := by rw [blank_act hb']; exact hup
  have hne : (t.aged.settle.st p).1 ≠ 0 := fun e => by
    have := (ok_portT hs hl2).2.1
    rw [hact, e] at this; simp at this
  have hleft : leftS (t.aged.settle.st p).1 (t.aged.settle.st p).2 t.dl = leftS (t.st p).1 (t.st p).2 t.dl := by
    rw [settle_st (by exact hl)]
    unfold T.settled
    have hact2 : t.aged.act p = true := hact
    rw [hact2]
    exact (left_role (h := (ok_portT h hl).1)).1
  have := k p hl hup
  rcases tick_left (d := t.dl) hok hne with q | q
  · show leftS (tickS (t.aged.settle.st p).1 (t.aged.settle.st p).2 t.dl).1 (tickS (t.aged.settle.st p).1 (t.aged.settle.st p).2 t.dl).2 t.dl ≤ i - 1
    omega
  · show leftS (tickS (t.aged.settle.st p).1 (t.aged.settle.st p).2 t.dl).1 (tickS (t.aged.settle.st p).1 (t.aged.settle.st p).2 t.dl).2 t.dl ≤ i - 1
    omega
theorem near_three (h : t.ok = true) (k : Near 0 t) {p : Nat} (hp : p < t.states.length) (hup : t.self.up p = true) : (t.st p).1 = 3 := (left_bd (ok_portT h hp).1).2.2 (k p hp hup)
/-- As many as are up. -/
def T.upL (t : T) (p : Nat) : List Unit := if t.self.up p = true then [()] else []
theorem flat_len {α β : Type} {f : Nat → List α} {g : Nat → List β} : ∀ {n : Nat}, (∀ p, p < n → (f p).length = (g p).length) → ((List.range n).flatMap f).length = ((List.range n).flatMap g).length
  | 0, _ => by simp
  | n + 1, h => by
    rw [flat_succ, flat_succ, List.length_append, List.length_append, flat_len (fun p hp => h p (by omega)), h n (by omega)]
def T.ups (t : T) : Nat := ((List.range t.states.length).flatMap t.upL).length
theorem fwd_ups (h : t.ok = true) (hb : Blank t) (k : Near 0 t) : t.fwd.length = t.ups := by
  unfold T.fwd T.ups
  refine flat_len fun p hp => ?_
  unfold T.fwdAt T.upL
  cases hup : t.self.up p with
  | true => rw [if_pos (near_three h k hp hup)]; rfl
  | false =>
    have h1 := (ok_portT h hp).2.1
    rw [blank_act hb, hup] at h1
    have h2 : (t.st p).1 = 0 := by simpa using h1.symm
    rw [h2]; rfl
theorem sends_ups (h : t.ok = true) (hb : Blank t) : t.tick.sends.length = t.ups := by
  have e : t.tick.states.length = t.states.length := by show (t.aged.settle.ticked).states.length = _; rw [ticked_len, settle_len]; rfl
  unfold T.sends T.ups
  rw [e]
  refine flat_len fun p hp => ?_
  have hb2 := blank_tick h hb
  have hr := blank_role (blank_has hb2) p
  have ha := blank_age (blank_has hb2)
  have hu : t.tick.self.up p = t.self.up p := rfl
  have hm := (ok_headT (tick_ok h)).2.2.1
  unfold T.send T.upL S.tell
  rw [hr, ha, hu]
  cases t.self.up p with
  | true =>
    have : (0 : Int) < t.tick.mx := by omega
    simp [this]
  | false => simp
end
end Go.Proofs.Ytidoaccidmmalaa.StpP
