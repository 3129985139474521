/-
  Plain facts on tables: what may be, by parts; what stays of one.
-/
import Derived.Test.YtnghilcjecjljaaFdbS
import Derived.Test.YtnghilcjecjljaaLruB
namespace Go.Proofs.Ytnghilcjecjljaa.FdbP
open Go.RowKit Go.Sort Go.Proofs.Ytnghilcjecjljaa.SliceP Go.Proofs.Ytnghilcjecjljaa.MacP
set_option linter.unusedVariables false
set_option maxRecDepth 100000

theorem right_iff {bs : List (List E)} {s ag : Int} : rightT bs s ag = true ↔ sizesB bs.length s ag = true ∧ ∀ (k : Nat) (l : List E), bs[k]? = some l → (l.length : Int) ≤ s ∧ (l.map E.mac).Nodup ∧ ∀ x ∈ l, rightE x = true ∧ bucketI x.mac bs.length = (k : Int) := by
  refine ⟨fun h => ⟨?_, fun k l hk => ?_⟩, fun ⟨h1, h2⟩ => ?_⟩
  · unfold rightT at h
    rw [Bool.and_eq_true] at h
    exact h.1
  · obtain ⟨h1, h2⟩ := right_at h hk
    refine ⟨h1, (right_mono h hk).1, fun x hx => ?_⟩
    obtain ⟨i, hi⟩ := List.mem_iff_getElem?.1 hx
    exact (h2 i x hi).2
  · unfold rightT
    rw [h1, Bool.true_and]
    refine bucketsOk_yes fun k l hk => ?_
    obtain ⟨h3, h4, h5⟩ := h2 k l hk
    refine bucketOk_yes h3 fun i hi => ?_
    obtain ⟨h6, h7⟩ := h5 l[i] (List.getElem_mem hi)
    unfold entOk
    rw [List.getElem?_eq_getElem hi]
    simp only [Bool.and_eq_true, Option.isNone_iff_eq_none, beq_iff_eq]
    refine ⟨?_, h6, h7⟩
    unfold findE
    rw [List.find?_eq_none]
    intro y hy
    obtain ⟨j, hj, rfl⟩ := List.mem_take_iff_getElem.1 hy
    rw [List.nodup_iff_pairwise_ne, List.pairwise_iff_getElem] at h4
    have := h4 j i (by rw [List.length_map]; omega) (by rw [List.length_map]; omega) (by omega)
    simp at this
    simp [isM, this]
theorem buck_map {bs : List (List E)} (f : List E → List E) (a : Int) (hn : numB bs.length = true) : buck (bs.map f) a = f (buck bs a) := by
  obtain ⟨k, h1, h2, h3⟩ := buck_at (a := a) hn
  unfold buck
  rw [List.length_map, h1]
  have h4 : buck bs a = bs[k] := by
    rw [List.getElem?_eq_getElem h2] at h3
    exact (Option.some.inj h3).symm
  unfold buck at h4
  rw [h1] at h4
  rw [h4, List.getD_eq_getElem?_getD, List.getElem?_map]
  simp [h2]
theorem find_some_of {l : List E} {a : Int} {x : E} (hn : (l.map E.mac).Nodup) (hx : x ∈ l) (ha : x.mac = a) : findE l a = some x := by
  subst ha
  induction l with
  | nil => cases hx
  | cons y l ih =>
    rw [List.map_cons, List.nodup_cons] at hn
    unfold findE isM
    rw [List.find?_cons]
    rcases List.mem_cons.1 hx with rfl | hx
    · simp
    · have hne : (y.mac == x.mac) = false := by
        rw [beq_eq_false_iff_ne]
        intro e
        exact hn.1 (by rw [e]; exact List.mem_map_of_mem hx)
      rw [hne]
      exact ih hn.2 hx
theorem find_mem {l : List E} {a : Int} {x : E} (h : findE l a = some x) : x ∈ l ∧ x.mac = a := by
  refine ⟨List.mem_of_find?_eq_some h, ?_⟩
  have := List.find?_some h
  unfold isM at this
  simpa using this
theorem find_not {l : List E} {a : Int} (h : ∀ x ∈ l, x.mac ≠ a) : findE l a = none := by
  unfold findE
  rw [List.find?_eq_none]
  intro x hx
  have := h x hx
  unfold isM
  simpa using this
theorem find_none' {l : List E} {a : Int} (h : findE l a = none) : ∀ x ∈ l, x.mac ≠ a := by
  unfold findE at h
  rw [List.find?_eq_none] at h
  intro x hx
  have := h x hx
  unfold isM at this
  simpa using this
theorem find_keep (p : E → Bool) {l : List E} (a : Int) (hn : (l.map E.mac).Nodup) : findE (keepL p l) a = (findE l a).filter fun x => !p x := by
  have hn2 : ((keepL p l).map E.mac).Nodup := hn.sublist ((keepL_sub p l).map _)
  cases ho : findE l a with
  | none =>
    rw [Option.filter_none]
    exact find_not fun x hx => find_none' ho x ((keepL_sub p l).mem hx)
  | some x =>
    obtain ⟨h1, h2⟩ := find_mem ho
    cases hp : p x with
    | true =>
      rw [Option.filter_some, hp]
      refine find_not fun y hy e => ?_
      have hyl := (keepL_sub p l).mem hy
      have := find_some_of hn hyl e
      rw [ho] at this
      obtain rfl := Option.some.inj this
      unfold keepL at hy
      have := (List.mem_filter.1 hy).2
      rw [hp] at this
      cases this
    | false =>
      rw [Option.filter_some, hp]
      exact find_some_of hn2 (by unfold keepL; exact List.mem_filter.2 ⟨h1, by rw [hp]; rfl⟩) h2
theorem right_keep (p : E → Bool) {bs : List (List E)} {s ag : Int} (h : rightT bs s ag = true) : rightT (bs.map (keepL p)) s ag = true := by
  rw [right_iff] at h ⊢
  obtain ⟨h1, h2⟩ := h
  rw [List.length_map]
  refine ⟨h1, fun k l hk => ?_⟩
  rw [List.getElem?_map] at hk
  obtain ⟨m, hm, rfl⟩ := Option.map_eq_some_iff.1 hk
  obtain ⟨h3, h4, h5⟩ := h2 k m hm
  have hs := keepL_sub p m
  refine ⟨?_, h4.sublist (hs.map _), fun x hx => h5 x (hs.mem hx)⟩
  have := hs.length_le
  omega
/-- The entry of an address, of a table. -/
def entO (bs : List (List E)) (a : Int) : Option E := findE (buck bs a) a
theorem buck_right {bs : List (List E)} {s ag : Int} (h : rightT bs s ag = true) (a : Int) : ((buck bs a).length : Int) ≤ s ∧ ((buck bs a).map E.mac).Nodup ∧ ∀ x ∈ buck bs a, rightE x = true ∧ bucketI x.mac bs.length = bucketI a bs.length := by
  obtain ⟨k, h1, h2, h3⟩ := right_buck h a
  obtain ⟨h4, h5, h6⟩ := (right_iff.1 h).2 k _ h3
  exact ⟨h4, h5, by rw [h1]; exact h6⟩
theorem ent_keep (p : E → Bool) {bs : List (List E)} {s ag : Int} (h : rightT bs s ag = true) (a : Int) : entO (bs.map (keepL p)) a = (entO bs a).filter fun x => !p x := by
  unfold entO
  rw [buck_map _ _ (right_sizes h).1, find_keep p a (buck_right h a).2.1]
theorem ent_right {bs : List (List E)} {s ag : Int} (h : rightT bs s ag = true) {a : Int} {x : E} (hx : entO bs a = some x) : rightE x = true ∧ x.mac = a := right_find h hx
theorem rightE_port {x : E} (h : rightE x = true) : 0 ≤ x.port ∧ x.port < 8 := by
  unfold rightE at h
  simp only [Bool.and_eq_true] at h
  exact portB_iff.1 h.2.2.1

theorem findO_none (ag now : Int) : findO none ag now = -1 := rfl
theorem findO_some (x : E) (ag now : Int) : findO (some x) ag now = if oldI x.st x.seen ag now then -1 else x.port := rfl
/-- FdbFlushes, plainly. -/
theorem flushes_plain {bs : List (List E)} {s ag a port now : Int} (h : rightT bs s ag = true) (hm : macB a = true) (hp : 0 ≤ port ∧ port < 8) (ht : timeB now = true) :
    let p := findI bs ag a now
    findI (sweepT bs ag now) ag a now = p ∧
    (((pinnedE bs a).isSome = true ∧ findI (bs.map (keepL (flushP (-1)))) ag a now = p ∧ findI (bs.map (keepL (flushP port))) ag a now = p ∧ p ≠ -1) ∨
     ((pinnedE bs a).isSome = false ∧ findI (bs.map (keepL (flushP (-1)))) ag a now = -1 ∧ (p = port ∧ findI (bs.map (keepL (flushP port))) ag a now = -1 ∨ p ≠ port ∧ findI (bs.map (keepL (flushP port))) ag a now = p))) := by
  have e0 : ∀ b, findI b ag a now = findO (entO b a) ag now := fun _ => rfl
  have e1 := ent_keep (fun x => oldI x.st x.seen ag now) h a
  have e2 := ent_keep (flushP (-1)) h a
  have e3 := ent_keep (flushP port) h a
  simp only [e0]
  unfold sweepT pinnedE
  rw [e1, e2, e3]
  show _ ∧ (((Option.filter E.st (entO bs a)).isSome = true ∧ _) ∨ ((Option.filter E.st (entO bs a)).isSome = false ∧ _))
  cases ho : entO bs a with
  | none => simp [findO_none]; omega
  | some x =>
    have hx := rightE_port (ent_right h ho).1
    have hpm : (port == -1) = false := by rw [beq_eq_false_iff_ne]; omega
    simp only [Option.filter_some, flushP]
    cases hst : x.st
    · have h1 : oldI x.st x.seen ag now = oldI false x.seen ag now := by rw [hst]
      simp only [findO_some, h1]
      by_cases hpe : port = x.port
      · subst hpe
        cases hod : oldI false x.seen ag now <;> simp [findO_some, findO_none, hst, hod] <;> omega
      · have hpe' : (port == x.port) = false := by simpa using hpe
        cases hod : oldI false x.seen ag now <;> simp [findO_some, findO_none, hst, hod, hpe', hpm] <;> omega
    · have h1 : oldI true x.seen ag now = false := rfl
      simp [findO_some, h1, hst]
      omega
end Go.Proofs.Ytnghilcjecjljaa.FdbP
