/-
  Plain facts on tables: what an entry that is put makes of one.
-/
import Derived.Test.YtnghilcjecjljaaFdbT
namespace Go.Proofs.Ytnghilcjecjljaa.FdbP
open Go.RowKit Go.Sort Go.Proofs.Ytnghilcjecjljaa.SliceP Go.Proofs.Ytnghilcjecjljaa.MacP
set_option linter.unusedVariables false
set_option maxRecDepth 100000

theorem keepL_keepL (p q : E → Bool) (l : List E) : keepL q (keepL p l) = keepL (fun z => p z || q z) l := by
  unfold keepL
  rw [List.filter_filter]
  congr 1
  funext z
  show (!q z && !p z) = !(p z || q z)
  cases p z <;> cases q z <;> rfl
theorem buck_set {c : List (List E)} {k : Nat} {l : List E} (hk : k < c.length) (hn : numB c.length = true) (a : Int) : buck (c.set k l) a = if bucketI a c.length = (k : Int) then l else buck c a := by
  obtain ⟨h0, h1, _, _⟩ := bucketI_bd a _ hn
  unfold buck
  rw [List.length_set, List.getD_eq_getElem?_getD, List.getElem?_set, List.getD_eq_getElem?_getD]
  by_cases h : bucketI a c.length = (k : Int)
  · rw [if_pos h, if_pos (by omega), if_pos (by omega)]; rfl
  · rw [if_neg h, if_neg (by omega)]
/-- What putO answers, by a predicate: which entries go. -/
structure PutF (bs : List (List E)) (s : Int) (x : E) (bs' : List (List E)) (p : E → Bool) : Prop where
  own : ∀ z, z.mac = x.mac → p z = true
  out : bs' = (bs.map (keepL p)).set (bucketI x.mac bs.length).toNat (x :: keepL p (buck bs x.mac))
  room : ((keepL p (buck bs x.mac)).length : Int) + 1 ≤ s
  goes : ∀ z, p z = true → z.mac = x.mac ∨ (z.st = false ∧ lastO (keepL (isM x.mac) (buck bs x.mac)) = some z ∧ ((keepL (isM x.mac) (buck bs x.mac)).length : Int) = s)
theorem putO_form {bs bs' : List (List E)} {s ag : Int} {x : E} (h : rightT bs s ag = true) (hp : putO bs s x = some bs') : ∃ p, PutF bs s x bs' p := by
  have hn := (right_sizes h).1
  obtain ⟨k, h1, h2, h3⟩ := right_buck h x.mac
  have hb1 : (bs.map (keepL (isM x.mac))).getD k [] = keepL (isM x.mac) (buck bs x.mac) := by
    rw [List.getD_eq_getElem?_getD, List.getElem?_map, h3]; rfl
  have hlen := (buck_right h x.mac).1
  have hkl := (keepL_sub (isM x.mac) (buck bs x.mac)).length_le
  unfold putO at hp
  rw [h1] at hp
  simp only [Int.toNat_natCast, hb1] at hp
  split at hp
  · rename_i hs
    obtain ⟨y, hy, rfl⟩ := Option.map_eq_some_iff.1 hp
    have hs' : ((keepL (isM x.mac) (buck bs x.mac)).length : Int) = s := by simpa using hs
    obtain ⟨_, hym, hyst⟩ := lastO_some hy
    refine ⟨fun z => isM x.mac z || isE y z, ?_, ?_, ?_, ?_⟩
    · intro z hz; simp [isM, hz]
    · rw [h1, Int.toNat_natCast, List.map_map]
      have e : (keepL (isE y) ∘ keepL (isM x.mac)) = keepL (fun z => isM x.mac z || isE y z) := by
        funext l; exact keepL_keepL _ _ l
      rw [e]
      congr 1
      rw [List.getD_eq_getElem?_getD, List.getElem?_map, h3]; rfl
    · rw [← keepL_keepL]
      have hlt : (keepL (isE y) (keepL (isM x.mac) (buck bs x.mac))).length < (keepL (isM x.mac) (buck bs x.mac)).length := by
        unfold keepL
        rw [List.length_filter_lt_length_iff_exists]
        exact ⟨y, hym, by simp [isE]⟩
      omega
    · intro z hz
      simp only [Bool.or_eq_true] at hz
      rcases hz with hz | hz
      · exact .inl (by simpa [isM] using hz)
      · obtain rfl : z = y := by simpa [isE] using hz
        exact .inr ⟨hyst, hy, hs'⟩
  · rename_i hs
    obtain rfl := Option.some.inj hp
    have hs' : ¬ ((keepL (isM x.mac) (buck bs x.mac)).length : Int) = s := by simpa using hs
    refine ⟨isM x.mac, fun z hz => by simp [isM, hz], by rw [h1, Int.toNat_natCast], by omega, fun z hz => .inl (by simpa [isM] using hz)⟩
theorem PutF.right {bs bs' : List (List E)} {s ag : Int} {x : E} {p : E → Bool} (F : PutF bs s x bs' p) (h : rightT bs s ag = true) (hx : rightE x = true) : rightT bs' s ag = true := by
  have hc := right_keep p h
  obtain ⟨k, h1, h2, h3⟩ := right_buck h x.mac
  rw [F.out, h1, Int.toNat_natCast]
  rw [right_iff] at hc ⊢
  rw [List.length_set]
  refine ⟨hc.1, fun j l hj => ?_⟩
  rw [List.getElem?_set] at hj
  split at hj
  · rename_i hkj
    subst hkj
    rw [if_pos (by rw [List.length_map]; exact h2)] at hj
    obtain rfl := Option.some.inj hj
    obtain ⟨h4, h5, h6⟩ := hc.2 k (keepL p (buck bs x.mac)) (by rw [List.getElem?_map, h3]; rfl)
    refine ⟨by rw [List.length_cons]; have := F.room; omega, ?_, fun z hz => ?_⟩
    · rw [List.map_cons, List.nodup_cons]
      refine ⟨fun hm => ?_, h5⟩
      obtain ⟨z, hz, he⟩ := List.mem_map.1 hm
      have h7 : (!p z) = true := (List.mem_filter.1 hz).2
      rw [F.own z he] at h7
      cases h7
    · rcases List.mem_cons.1 hz with rfl | hz
      · exact ⟨hx, by rw [List.length_map]; exact h1⟩
      · exact h6 z hz
  · exact hc.2 j l hj
theorem PutF.same {bs bs' : List (List E)} {s ag : Int} {x : E} {p : E → Bool} (F : PutF bs s x bs' p) (h : rightT bs s ag = true) : entO bs' x.mac = some x := by
  have hn := (right_sizes h).1
  obtain ⟨k, h1, h2, h3⟩ := right_buck h x.mac
  unfold entO
  rw [F.out, h1, Int.toNat_natCast, buck_set (by rw [List.length_map]; exact h2) (by rw [List.length_map]; exact hn), List.length_map, if_pos h1]
  unfold findE isM
  simp
theorem PutF.other {bs bs' : List (List E)} {s ag : Int} {x : E} {p : E → Bool} (F : PutF bs s x bs' p) (h : rightT bs s ag = true) {a : Int} (ha : a ≠ x.mac) : entO bs' a = (entO bs a).filter fun z => !p z := by
  have hn := (right_sizes h).1
  obtain ⟨k, h1, h2, h3⟩ := right_buck h x.mac
  rw [← ent_keep p h a]
  unfold entO
  rw [F.out, h1, Int.toNat_natCast, buck_set (by rw [List.length_map]; exact h2) (by rw [List.length_map]; exact hn), List.length_map]
  split
  · rename_i hk
    have e : buck (bs.map (keepL p)) a = keepL p (buck bs x.mac) := by
      rw [buck_map _ _ hn]
      unfold buck
      rw [hk, h1]
    rw [e]
    have hne : isM a x = false := by unfold isM; simpa using fun e => ha e.symm
    unfold findE
    rw [List.find?_cons, hne]
  · rfl
/-- Whom a put does not touch, or makes go. -/
theorem put_other {bs bs' : List (List E)} {s ag : Int} {x : E} (h : rightT bs s ag = true) (hp : putO bs s x = some bs') {a : Int} (ha : a ≠ x.mac) : entO bs' a = entO bs a ∨ (entO bs' a = none ∧ ∃ y, entO bs a = some y ∧ y.st = false) := by
  obtain ⟨p, F⟩ := putO_form h hp
  rw [F.other h ha]
  cases ho : entO bs a with
  | none => exact .inl rfl
  | some y =>
    rw [Option.filter_some]
    cases hpy : p y with
    | false => exact .inl rfl
    | true =>
      refine .inr ⟨rfl, y, rfl, ?_⟩
      rcases F.goes y hpy with h1 | h1
      · exact absurd ((ent_right h ho).2.symm.trans h1) ha
      · exact h1.1
theorem put_same {bs bs' : List (List E)} {s ag : Int} {x : E} (h : rightT bs s ag = true) (hp : putO bs s x = some bs') : entO bs' x.mac = some x := by
  obtain ⟨p, F⟩ := putO_form h hp
  exact F.same h
theorem put_right {bs bs' : List (List E)} {s ag : Int} {x : E} (h : rightT bs s ag = true) (hp : putO bs s x = some bs') (hx : rightE x = true) : rightT bs' s ag = true := by
  obtain ⟨p, F⟩ := putO_form h hp
  exact F.right h hx
/-- It does not fit: all of its bucket is static. -/
theorem put_none {bs : List (List E)} {s ag : Int} {x : E} (h : rightT bs s ag = true) (hp : putO bs s x = none) : ((keepL (isM x.mac) (buck bs x.mac)).length : Int) = s ∧ ∀ z ∈ keepL (isM x.mac) (buck bs x.mac), z.st = true := by
  obtain ⟨k, h1, h2, h3⟩ := right_buck h x.mac
  have hb1 : (bs.map (keepL (isM x.mac))).getD k [] = keepL (isM x.mac) (buck bs x.mac) := by
    rw [List.getD_eq_getElem?_getD, List.getElem?_map, h3]; rfl
  unfold putO at hp
  rw [h1] at hp
  simp only [Int.toNat_natCast, hb1] at hp
  split at hp
  · rename_i hs
    refine ⟨by simpa using hs, fun z hz => ?_⟩
    have hl := Option.map_eq_none_iff.1 hp
    have hm := lastO_none hl
    unfold macsN dyn at hm
    rw [List.map_eq_nil_iff, List.filter_eq_nil_iff] at hm
    have := hm z hz
    simpa using this
  · cases hp
theorem rightE_mk {a port now : Int} (hm : macB a = true) (hp : portB port = true) (ht : timeB now = true) : rightE ⟨a, port, now, false⟩ = true := by
  unfold rightE
  simp only [hm, hp, ht]; rfl
theorem rightE_pin {a port : Int} (hm : macB a = true) (hp : portB port = true) : rightE ⟨a, port, 0, true⟩ = true := by
  unfold rightE
  simp only [hm, hp]
  rw [timeB_iff.2 ⟨by omega, by omega⟩]; rfl
theorem learn_right {bs : List (List E)} {s ag a port now : Int} (h : learnOk bs s ag a port now = true) : rightT (learnT bs s a port now) s ag = true := by
  unfold learnOk at h
  simp only [Bool.and_eq_true] at h
  obtain ⟨h1, h2, h3, h4⟩ := h
  unfold learnT
  split
  · exact h1
  · cases hp : putO bs s ⟨a, port, now, false⟩ with
    | none => exact h1
    | some bs' => exact put_right h1 hp (rightE_mk h2 h3 h4)
end Go.Proofs.Ytnghilcjecjljaa.FdbP
