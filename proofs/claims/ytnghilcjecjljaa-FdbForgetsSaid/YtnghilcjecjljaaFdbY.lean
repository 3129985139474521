/-
  Plain facts for FdbForgets.
-/
import Derived.Test.YtnghilcjecjljaaFdbV
import Derived.Test.YtnghilcjecjljaaMapI
namespace Go.Proofs.Ytnghilcjecjljaa.FdbP
open Go.RowKit Go.Sort Go.Proofs.Ytnghilcjecjljaa.SliceP Go.Proofs.Ytnghilcjecjljaa.MacP
set_option linter.unusedVariables false
set_option maxRecDepth 100000

/-- What a table has of an address, and what was kept of it beside: where it was seen, when, where it is pinned. -/
def EntOK (o : Option E) (s a p : Int) : Prop := match o with
  | none => p = 0
  | some y => (y.st = true → p = y.port + 1) ∧ (y.st = false → p = 0 ∧ s = y.port + 1 ∧ a = y.seen)
structure Inv (s ag : Int) (bs : List (List E)) (fs fa fp : Int → Int) (ks : List Int) : Prop where
  right : rightT bs s ag = true
  ent : ∀ x, EntOK (entO bs x) (fs x) (fa x) (fp x)
  key : ∀ x, fp x ≠ 0 → x ∈ ks
theorem EntOK.filter {o : Option E} {s a p : Int} {q : E → Bool} (h : EntOK o s a p) (hq : ∀ y, q y = true → y.st = false) : EntOK (o.filter fun z => !q z) s a p := by
  cases o with
  | none => exact h
  | some y =>
    rw [Option.filter_some]
    cases hy : q y with
    | false => exact h
    | true => exact (h.2 (hq y hy)).1
theorem Inv.keep {s ag : Int} {bs : List (List E)} {fs fa fp : Int → Int} {ks : List Int} (h : Inv s ag bs fs fa fp ks) {q : E → Bool} (hq : ∀ y, q y = true → y.st = false) : Inv s ag (bs.map (keepL q)) fs fa fp ks :=
  ⟨right_keep q h.right, fun x => by rw [ent_keep q h.right x]; exact (h.ent x).filter hq, h.key⟩
theorem Inv.sweep {s ag now : Int} {bs : List (List E)} {fs fa fp : Int → Int} {ks : List Int} (h : Inv s ag bs fs fa fp ks) : Inv s ag (sweepT bs ag now) fs fa fp ks := h.keep fun y hy => by
  unfold oldI at hy
  cases hs : y.st with
  | false => rfl
  | true => rw [hs] at hy; cases hy
theorem Inv.flush {s ag port : Int} {bs : List (List E)} {fs fa fp : Int → Int} {ks : List Int} (h : Inv s ag bs fs fa fp ks) : Inv s ag (bs.map (keepL (flushP port))) fs fa fp ks := h.keep fun y hy => by
  unfold flushP at hy
  cases hs : y.st with
  | false => rfl
  | true => rw [hs] at hy; cases hy
theorem mem_addK {ks : List Int} {x y : Int} : y ∈ MapP.addK ks x ↔ y ∈ ks ∨ y = x := by
  unfold MapP.addK
  split
  · rename_i hc
    constructor
    · exact .inl
    · rintro (h | rfl)
      · exact h
      · simpa using hc
  · simp
theorem upd_same (f : Int → Int) (x v : Int) : MapP.upd f x v x = v := by simp [MapP.upd]
theorem upd_other (f : Int → Int) {x y : Int} (v : Int) (h : y ≠ x) : MapP.upd f x v y = f y := by simp [MapP.upd, h]
theorem put_same' {bs bs' : List (List E)} {s ag a p n : Int} {b : Bool} (h : rightT bs s ag = true) (hp : putO bs s ⟨a, p, n, b⟩ = some bs') : entO bs' a = some ⟨a, p, n, b⟩ := put_same (x := ⟨a, p, n, b⟩) h hp
theorem put_other' {bs bs' : List (List E)} {s ag a p n x : Int} {b : Bool} (h : rightT bs s ag = true) (hp : putO bs s ⟨a, p, n, b⟩ = some bs') (ha : x ≠ a) : entO bs' x = entO bs x ∨ (entO bs' x = none ∧ ∃ y, entO bs x = some y ∧ y.st = false) := put_other (x := ⟨a, p, n, b⟩) h hp ha
theorem put_right' {bs bs' : List (List E)} {s ag a p n : Int} {b : Bool} (h : rightT bs s ag = true) (hp : putO bs s ⟨a, p, n, b⟩ = some bs') (hx : rightE ⟨a, p, n, b⟩ = true) : rightT bs' s ag = true := put_right (x := ⟨a, p, n, b⟩) h hp hx
theorem pin_yes' {bs bs' : List (List E)} {s a port : Int} (h : pinO bs s a port = some bs') : putO bs s ⟨a, port, 0, true⟩ = some bs' := h
theorem Inv.pin {s ag a port : Int} {bs bs' : List (List E)} {fs fa fp : Int → Int} {ks : List Int} (h : Inv s ag bs fs fa fp ks) (hm : macB a = true) (hp : portB port = true) (hb : pinO bs s a port = some bs') : Inv s ag bs' fs fa (MapP.upd fp a (port + 1)) (MapP.addK ks a) := by
  have hb' := pin_yes' hb
  refine ⟨put_right' h.right hb' (rightE_pin hm hp), fun x => ?_, fun x hx => ?_⟩
  · by_cases hxa : x = a
    · subst hxa
      have e : entO bs' x = some ⟨x, port, 0, true⟩ := put_same' h.right hb'
      rw [upd_same, e]
      exact ⟨fun _ => rfl, fun hc => by cases hc⟩
    · rw [upd_other _ _ hxa]
      rcases put_other' h.right hb' hxa with e | ⟨e, y, hy, hst⟩
      · rw [e]; exact h.ent x
      · rw [e]
        have := h.ent x
        rw [hy] at this
        exact (this.2 hst).1
  · rw [mem_addK]
    by_cases hxa : x = a
    · exact .inr hxa
    · rw [upd_other _ _ hxa] at hx
      exact .inl (h.key x hx)
theorem Inv.pinned {s ag a : Int} {bs : List (List E)} {fs fa fp : Int → Int} {ks : List Int} (h : Inv s ag bs fs fa fp ks) : ((pinnedE bs a).isSome = true ∧ 0 < fp a) ∨ ((pinnedE bs a).isSome = false ∧ fp a = 0) := by
  have he := h.ent a
  unfold pinnedE
  show ((Option.filter E.st (entO bs a)).isSome = true ∧ _) ∨ ((Option.filter E.st (entO bs a)).isSome = false ∧ _)
  cases ho : entO bs a with
  | none => rw [ho] at he; exact .inr ⟨rfl, he⟩
  | some y =>
    rw [ho] at he
    have hy := rightE_port (ent_right h.right ho).1
    rw [Option.filter_some]
    cases hst : y.st with
    | true => exact .inl ⟨rfl, by have := he.1 hst; omega⟩
    | false => exact .inr ⟨rfl, (he.2 hst).1⟩
theorem Inv.unpin {s ag a : Int} {bs bs' : List (List E)} {fs fa fp : Int → Int} {ks : List Int} (h : Inv s ag bs fs fa fp ks) (hb : unpinO bs a = some bs') : Inv s ag bs' (MapP.upd fs a 0) fa (MapP.upd fp a 0) (MapP.addK ks a) := by
  unfold unpinO at hb
  obtain ⟨y, hy, rfl⟩ := Option.map_eq_some_iff.1 hb
  have hy2 : entO bs a = some y ∧ y.st = true := by
    unfold pinnedE at hy
    exact Option.filter_eq_some_iff.1 hy
  refine ⟨right_keep _ h.right, fun x => ?_, fun x hx => ?_⟩
  · rw [ent_keep _ h.right x]
    by_cases hxa : x = a
    · subst hxa
      rw [hy2.1, Option.filter_some, upd_same, upd_same]
      simp [isE, EntOK]
    · rw [upd_other _ _ hxa, upd_other _ _ hxa]
      have he := h.ent x
      cases ho : entO bs x with
      | none => rw [ho] at he; exact he
      | some z =>
        have hz : isE y z = false := by
          unfold isE
          rw [decide_eq_false_iff_not]
          rintro rfl
          exact hxa ((ent_right h.right ho).2.symm.trans (ent_right h.right hy2.1).2)
        rw [Option.filter_some, hz]
        rw [ho] at he
        exact he
  · rw [mem_addK]
    by_cases hxa : x = a
    · exact .inr hxa
    · rw [upd_other _ _ hxa] at hx
      exact .inl (h.key x hx)
theorem nodup_len {l : List Int} {m : List Int} (hn : l.Nodup) (hs : ∀ x ∈ l, x ∈ m) : l.length ≤ m.length := by
  induction l generalizing m with
  | nil => simp
  | cons x l ih =>
    rw [List.nodup_cons] at hn
    have hx := hs x (by simp)
    have := ih (m := m.erase x) hn.2 fun y hy => by
      have hne : y ≠ x := by rintro rfl; exact hn.1 hy
      exact (List.mem_erase_of_ne hne).2 (hs y (by simp [hy]))
    rw [List.length_erase_of_mem hx] at this
    have := List.length_pos_of_mem hx
    simp only [List.length_cons]; omega
/-- Learn, where the address is pinned: the table as it is. -/
theorem Inv.learnPinned {s ag a port now : Int} {bs : List (List E)} {fs fa fp : Int → Int} {ks : List Int} (h : Inv s ag bs fs fa fp ks) (hf : fp a ≠ 0) : learnT bs s a port now = bs ∧ findI bs ag a now = fp a - 1 ∧ fp a - 1 ≠ -1 := by
  have he := h.ent a
  unfold learnT
  show (if ((entO bs a).getD zE).st = true then bs else _) = bs ∧ findO (entO bs a) ag now = _ ∧ _
  cases ho : entO bs a with
  | none => rw [ho] at he; exact absurd he hf
  | some y =>
    rw [ho] at he
    have hy := rightE_port (ent_right h.right ho).1
    cases hst : y.st with
    | true =>
      have h1 := he.1 hst
      refine ⟨by simp [hst], ?_, by omega⟩
      rw [findO_some]
      unfold oldI
      rw [hst]
      simp; omega
    | false => exact absurd (he.2 hst).1 hf
theorem Inv.learn {s ag a port now : Int} {bs : List (List E)} {fs fa fp : Int → Int} {ks : List Int} (h : Inv s ag bs fs fa fp ks) (hm : macB a = true) (hp : portB port = true) (ht : timeB now = true) (hf : fp a = 0) :
    Inv s ag (learnT bs s a port now) (MapP.upd fs a (port + 1)) (MapP.upd fa a now) fp ks ∧ (findI (learnT bs s a port now) ag a now ≠ -1 ∨ s ≤ (ks.length : Int)) := by
  have he := h.ent a
  have hst : ((entO bs a).getD zE).st = false := by
    cases ho : entO bs a with
    | none => rfl
    | some y =>
      rw [ho] at he
      cases hst : y.st with
      | true =>
        have := he.1 hst
        have hy := rightE_port (ent_right h.right ho).1
        omega
      | false => exact hst
  have e0 : learnT bs s a port now = (putO bs s ⟨a, port, now, false⟩).getD bs := by
    unfold learnT
    show (if ((entO bs a).getD zE).st = true then bs else _) = _
    rw [hst]; rfl
  rw [e0]
  cases hb : putO bs s ⟨a, port, now, false⟩ with
  | some bs' =>
    rw [Option.getD_some]
    have e : entO bs' a = some ⟨a, port, now, false⟩ := put_same' h.right hb
    have hgt := (right_sizes h.right).2.2.2.1
    refine ⟨⟨put_right' h.right hb (rightE_mk hm hp ht), fun x => ?_, h.key⟩, .inl ?_⟩
    · by_cases hxa : x = a
      · subst hxa
        rw [upd_same, upd_same, e]
        exact ⟨(fun hc => by cases hc), fun _ => ⟨hf, rfl, rfl⟩⟩
      · rw [upd_other _ _ hxa, upd_other _ _ hxa]
        rcases put_other' h.right hb hxa with e' | ⟨e', y, hy, hst'⟩
        · rw [e']; exact h.ent x
        · rw [e']
          have := h.ent x
          rw [hy] at this
          exact (this.2 hst').1
    · show findO (entO bs' a) ag now ≠ -1
      rw [e, findO_some]
      have h0 : oldI false now ag now = false := by unfold oldI; simp; omega
      have hpp := portB_iff.1 hp
      show (if oldI false now ag now = true then -1 else port) ≠ -1
      rw [h0]
      simp; omega
  | none =>
    rw [Option.getD_none]
    obtain ⟨hlen, hall⟩ := put_none (x := ⟨a, port, now, false⟩) h.right hb
    obtain ⟨hbl, hnd, hbe⟩ := buck_right h.right a
    have hno : entO bs a = none := by
      cases ho : entO bs a with
      | none => rfl
      | some y =>
        obtain ⟨hy1, hy2⟩ := find_mem ho
        have hlt : (keepL (isM a) (buck bs a)).length < (buck bs a).length := by
          unfold keepL
          rw [List.length_filter_lt_length_iff_exists]
          exact ⟨y, hy1, by simp [isM, hy2]⟩
        have : ((keepL (isM a) (buck bs a)).length : Int) = s := hlen
        omega
    refine ⟨⟨h.right, fun x => ?_, h.key⟩, .inr ?_⟩
    · by_cases hxa : x = a
      · subst hxa
        rw [hno]; exact hf
      · rw [upd_other _ _ hxa, upd_other _ _ hxa]
        exact h.ent x
    · have hsub := keepL_sub (isM a) (buck bs a)
      have := nodup_len (l := (keepL (isM a) (buck bs a)).map E.mac) (m := ks) (hnd.sublist (hsub.map _)) fun x hx => by
        obtain ⟨z, hz, rfl⟩ := List.mem_map.1 hx
        refine h.key _ ?_
        have hzb := hsub.mem hz
        have hez : entO bs z.mac = some z := by
          obtain ⟨hr, hbk⟩ := hbe z hzb
          have eb : buck bs z.mac = buck bs a := by unfold buck; rw [hbk]
          unfold entO
          rw [eb]
          exact find_some_of hnd hzb rfl
        have h2 := h.ent z.mac
        rw [hez] at h2
        have hst2 : z.st = true := hall z hz
        have hy := rightE_port (hbe z hzb).1
        have := h2.1 hst2
        omega
      rw [List.length_map] at this
      have hl : ((keepL (isM a) (buck bs a)).length : Int) = s := hlen
      omega
/-- What is found, against what was kept. -/
theorem Inv.found {s ag x now : Int} {bs : List (List E)} {fs fa fp : Int → Int} {ks : List Int} (h : Inv s ag bs fs fa fp ks) : (0 < fp x ∧ fp x ≤ 8 ∧ findI bs ag x now = fp x - 1) ∨ (fp x = 0 ∧ findI bs ag x now = -1) ∨ (fp x = 0 ∧ findI bs ag x now ≠ -1 ∧ findI bs ag x now = fs x - 1 ∧ 1 ≤ fs x ∧ fs x ≤ 8 ∧ 0 ≤ fa x ∧ fa x ≤ 1099511627776 ∧ ¬ ag < now - fa x) := by
  have he := h.ent x
  show (0 < fp x ∧ fp x ≤ 8 ∧ findO (entO bs x) ag now = _) ∨ (fp x = 0 ∧ findO (entO bs x) ag now = -1) ∨ (fp x = 0 ∧ findO (entO bs x) ag now ≠ -1 ∧ findO (entO bs x) ag now = _ ∧ _)
  cases ho : entO bs x with
  | none => rw [ho] at he; exact .inr (.inl ⟨he, rfl⟩)
  | some y =>
    rw [ho] at he
    have hr := (ent_right h.right ho).1
    have hy := rightE_port hr
    have hyt := rightE_time hr
    rw [findO_some]
    cases hst : y.st with
    | true =>
      have h1 := he.1 hst
      refine .inl ⟨by omega, by omega, ?_⟩
      unfold oldI
      simp; omega
    | false =>
      obtain ⟨h1, h2, h3⟩ := he.2 hst
      refine .inr ?_
      unfold oldI
      by_cases ho : ag < now - y.seen
      · left; simp [ho, h1]
      · right; simp only [Bool.not_false, Bool.true_and, decide_eq_true_eq, if_neg ho]
        refine ⟨h1, by omega, by omega, by omega, by omega, by omega, by omega, by rw [h3]; exact ho⟩
end Go.Proofs.Ytnghilcjecjljaa.FdbP
