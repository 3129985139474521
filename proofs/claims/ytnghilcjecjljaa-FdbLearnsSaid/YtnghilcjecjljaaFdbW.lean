/-
  Plain facts for FdbCrowds.
-/
import Derived.Test.YtnghilcjecjljaaFdbV
import Derived.Test.YtnghilcjecjljaaMapI
namespace Go.Proofs.Ytnghilcjecjljaa.FdbP
open Go.RowKit Go.Sort Go.Proofs.Ytnghilcjecjljaa.SliceP Go.Proofs.Ytnghilcjecjljaa.MacP
set_option linter.unusedVariables false
set_option maxRecDepth 100000

theorem macB_small : ∀ k : Nat, k < 24 → macB (k : Int) = true := by decide +kernel
theorem bucket_one (a : Int) : bucketI a 1 = 0 := by unfold bucketI; exact Int.emod_one _
theorem buck_one (L : List E) (a : Int) : buck [L] a = L := by
  unfold buck
  rw [show (([L] : List (List E)).length : Int) = 1 from rfl, bucket_one]; rfl
theorem entO_one (L : List E) (a : Int) : entO [L] a = findE L a := by unfold entO; rw [buck_one]
theorem dyn_all {L : List E} (h : ∀ e ∈ L, e.st = false) : dyn L = L := by
  unfold dyn
  rw [List.filter_eq_self]
  intro e he
  rw [h e he]; rfl
/-- What the table is while others are heard: a's entry is the last one till there are as many others as slots, and then it is gone. -/
structure Crowd (s ag a port : Int) (L : List E) (ks : List Int) : Prop where
  right : rightT [L] s ag = true
  live : ∀ e ∈ L, e.st = false
  out : a ∉ ks
  few : (ks.length : Int) < s → ∃ M, L = M ++ [⟨a, port, 0, false⟩] ∧ M.length = ks.length ∧ ∀ y, y ∈ M.map E.mac ↔ y ∈ ks
  many : s ≤ (ks.length : Int) → ∀ e ∈ L, e.mac ≠ a
theorem learnT_one {L : List E} (s x port now : Int) (hl : ∀ e ∈ L, e.st = false) : learnT [L] s x port now =
    [(⟨x, port, now, false⟩ : E) :: (if ((keepL (isM x) L).length : Int) = s then keepL (fun z => (keepL (isM x) L)[(keepL (isM x) L).length - 1]? == some z) (keepL (isM x) L) else keepL (isM x) L)] ∨ ((keepL (isM x) L).length : Int) = s ∧ keepL (isM x) L = [] := by
  have hst : ((findE (buck [L] x) x).getD zE).st = false := by
    rw [buck_one]
    cases ho : findE L x with
    | none => rfl
    | some y => exact hl y (find_mem ho).1
  have hl0 : ∀ e ∈ keepL (isM x) L, e.st = false := fun e he => hl e ((keepL_sub _ _).mem he)
  unfold learnT
  rw [hst]
  simp only [Bool.false_eq_true, if_false]
  unfold putO
  have hb : bucketI x (([L] : List (List E)).length : Int) = 0 := bucket_one x
  simp only [hb, Int.toNat_zero, List.map_cons, List.map_nil, List.getD_cons_zero, List.set_cons_zero]
  by_cases hs : ((keepL (isM x) L).length : Int) = s
  · rw [if_pos (by simpa using hs), if_pos hs]
    unfold lastO
    rw [dyn_all hl0]
    cases hq : (keepL (isM x) L)[(keepL (isM x) L).length - 1]? with
    | none =>
      right
      refine ⟨hs, ?_⟩
      rw [List.getElem?_eq_none_iff] at hq
      exact List.length_eq_zero_iff.1 (by omega)
    | some y =>
      left
      simp only [Option.map_some, Option.getD_some]
      congr 2
      unfold keepL isE
      congr 1
      funext z
      congr 1
      by_cases hzy : z = y
      · subst hzy; simp
      · have : ¬ y = z := fun e => hzy e.symm
        simp [hzy, this]
  · rw [if_neg (by simpa using hs), if_neg hs]
    left; rfl
theorem keep_no {L : List E} {x : Int} (h : ∀ e ∈ L, e.mac ≠ x) : keepL (isM x) L = L := by
  unfold keepL
  rw [List.filter_eq_self]
  intro e he
  have := h e he
  simp [isM, this]
theorem keep_one {L : List E} {x : Int} (hn : (L.map E.mac).Nodup) (h : x ∈ L.map E.mac) : (keepL (isM x) L).length + 1 = L.length := by
  induction L with
  | nil => cases h
  | cons y L ih =>
    rw [List.map_cons, List.nodup_cons] at hn
    unfold keepL
    by_cases hy : y.mac = x
    · have hno : ∀ e ∈ L, e.mac ≠ x := fun e he e' => hn.1 (by rw [hy, ← e']; exact List.mem_map_of_mem he)
      have := keep_no hno
      unfold keepL at this
      rw [List.filter_cons, if_neg (by simp [isM, hy]), this]; rfl
    · rw [List.filter_cons, if_pos (by simp [isM, hy])]
      rw [List.map_cons, List.mem_cons] at h
      have := ih hn.2 (h.resolve_left fun e => hy e.symm)
      unfold keepL at this
      simp only [List.length_cons]; omega
theorem Crowd.start {s ag a port : Int} (hs : 1 ≤ s ∧ s ≤ 4) (hg : 1 ≤ ag ∧ ag ≤ 1048576) (hm : macB a = true) (hp : portB port = true) : ∃ L, learnT [[]] s a port 0 = [L] ∧ Crowd s ag a port L [] := by
  have h0 : rightT [[]] s ag = true := by
    rw [right_iff]
    refine ⟨?_, fun k l hk => ?_⟩
    · unfold sizesB
      simp only [Bool.and_eq_true, decide_eq_true_eq]
      exact ⟨rfl, hs.1, hs.2, hg.1, hg.2⟩
    · match k, hk with
      | 0, hk =>
        obtain rfl : [] = l := by simpa using hk
        exact ⟨by simp; omega, by simp, fun x hx => by cases hx⟩
      | k + 1, hk => simp at hk
  have hok : learnOk [[]] s ag a port 0 = true := by
    unfold learnOk
    rw [h0, hm, hp, timeB_iff.2 ⟨by omega, by omega⟩]; rfl
  have hr := learn_right hok
  rcases learnT_one (L := []) s a port 0 (fun e he => by cases he) with h | ⟨h, _⟩
  · have e0 : keepL (isM a) ([] : List E) = [] := rfl
    rw [e0, if_neg (by simp; omega)] at h
    rw [h] at hr
    refine ⟨_, h, hr, fun e he => ?_, by simp, fun _ => ⟨[], rfl, rfl, by simp⟩, fun h2 => ?_⟩
    · obtain rfl : e = _ := by simpa using he
      rfl
    · simp at h2; omega
  · have : (0 : Int) = s := h
    omega
theorem Crowd.step {s ag a port x p' : Int} {L : List E} {ks : List Int} (C : Crowd s ag a port L ks) (hxa : x ≠ a) (hm : macB x = true) (hp : portB p' = true) : learnOk [L] s ag x p' 0 = true ∧ ∃ L', learnT [L] s x p' 0 = [L'] ∧ Crowd s ag a port L' (MapP.addK ks x) := by
  have hok : learnOk [L] s ag x p' 0 = true := by
    unfold learnOk
    rw [C.right, hm, hp, timeB_iff.2 ⟨by omega, by omega⟩]; rfl
  refine ⟨hok, ?_⟩
  have hr := learn_right hok
  obtain ⟨_, hs1, hs2, _⟩ := right_sizes C.right
  obtain ⟨hlen, hnd, _⟩ := (right_iff.1 C.right).2 0 L rfl
  have hout : a ∉ MapP.addK ks x := by
    unfold MapP.addK
    split
    · exact C.out
    · rw [List.mem_append]
      rintro (h | h)
      · exact C.out h
      · simp only [List.mem_singleton] at h; exact hxa h.symm
  have hlo : ∀ e ∈ keepL (isM x) L, e ∈ L := fun e he => (keepL_sub _ _).mem he
  rcases learnT_one s x p' 0 C.live with h | ⟨h, hnil⟩
  · rw [h] at hr
    refine ⟨_, h, hr, fun e he => ?_, hout, fun hf => ?_, fun hmany e he => ?_⟩
    · rcases List.mem_cons.1 he with rfl | he
      · rfl
      · split at he
        · exact C.live e (hlo e ((keepL_sub _ _).mem he))
        · exact C.live e (hlo e he)
    · have hks : (ks.length : Int) < s := by
        unfold MapP.addK at hf
        split at hf
        · exact hf
        · rw [List.length_append] at hf; simp at hf; omega
      obtain ⟨M, rfl, hM, hMk⟩ := C.few hks
      have e1 : keepL (isM x) (M ++ [⟨a, port, 0, false⟩]) = keepL (isM x) M ++ [⟨a, port, 0, false⟩] := by
        unfold keepL
        rw [List.filter_append]
        congr 1
        have hax : ¬ a = x := fun e => hxa e.symm
        simp [isM, hax]
      have hndM : (M.map E.mac).Nodup := by
        rw [List.map_append, List.nodup_append] at hnd
        exact hnd.1
      by_cases hxk : x ∈ ks
      · have e2 := keep_one hndM ((hMk x).2 hxk)
        have e3 : MapP.addK ks x = ks := by unfold MapP.addK; rw [if_pos (by simpa using hxk)]
        rw [e1, e3, if_neg (by rw [List.length_append]; simp; omega)]
        refine ⟨⟨x, p', 0, false⟩ :: keepL (isM x) M, rfl, by rw [List.length_cons]; omega, fun y => ?_⟩
        rw [List.map_cons, List.mem_cons, ← hMk y]
        constructor
        · rintro (rfl | hy)
          · exact (hMk _).2 hxk
          · exact ((keepL_sub _ _).map _).mem hy
        · intro hy
          by_cases hyx : y = x
          · exact .inl hyx
          · right
            obtain ⟨e, he, rfl⟩ := List.mem_map.1 hy
            refine List.mem_map_of_mem ?_
            unfold keepL
            rw [List.mem_filter]
            exact ⟨he, by simp [isM, hyx]⟩
      · have hno : ∀ e ∈ M, e.mac ≠ x := fun e he e' => hxk ((hMk x).1 (by rw [← e']; exact List.mem_map_of_mem he))
        have e2 := keep_no hno
        have e3 : MapP.addK ks x = ks ++ [x] := by unfold MapP.addK; rw [if_neg (by simpa using hxk)]
        rw [e3, List.length_append] at hf
        rw [e1, e2, e3, if_neg (by rw [List.length_append]; simp at hf ⊢; omega)]
        refine ⟨⟨x, p', 0, false⟩ :: M, rfl, by rw [List.length_cons, List.length_append, hM]; rfl, fun y => ?_⟩
        rw [List.map_cons, List.mem_cons, hMk y, List.mem_append, List.mem_singleton]
        exact Or.comm
    · rcases List.mem_cons.1 he with rfl | he
      · exact hxa
      · by_cases hks : s ≤ (ks.length : Int)
        · have := C.many hks
          split at he
          · exact this e (hlo e ((keepL_sub _ _).mem he))
          · exact this e (hlo e he)
        · have hxk : ¬ x ∈ ks := by
            intro hxk
            unfold MapP.addK at hmany
            rw [if_pos (by simpa using hxk)] at hmany
            exact hks hmany
          obtain ⟨M, rfl, hM, hMk⟩ := C.few (by omega)
          have e3 : MapP.addK ks x = ks ++ [x] := by unfold MapP.addK; rw [if_neg (by simpa using hxk)]
          rw [e3, List.length_append] at hmany
          have hno : ∀ e ∈ M ++ [(⟨a, port, 0, false⟩ : E)], e.mac ≠ x := fun e he e' => by
            rcases List.mem_append.1 he with he | he
            · exact hxk ((hMk x).1 (by rw [← e']; exact List.mem_map_of_mem he))
            · simp only [List.mem_singleton] at he
              subst he
              exact hxa e'.symm
          rw [keep_no hno] at he
          have hMs : (((M ++ [(⟨a, port, 0, false⟩ : E)]).length : Nat) : Int) = s := by
            rw [List.length_append] at hlen ⊢
            simp at hlen hmany ⊢
            omega
          rw [if_pos hMs] at he
          have hlast : (M ++ [(⟨a, port, 0, false⟩ : E)])[(M ++ [(⟨a, port, 0, false⟩ : E)]).length - 1]? = some ⟨a, port, 0, false⟩ := by
            rw [List.length_append]; simp
          rw [hlast] at he
          unfold keepL at he
          rw [List.mem_filter] at he
          obtain ⟨he1, he2⟩ := he
          rcases List.mem_append.1 he1 with h5 | h5
          · intro hea
            rw [List.map_append, List.nodup_append] at hnd
            exact hnd.2.2 a (by rw [← hea]; exact List.mem_map_of_mem h5) a (by simp) rfl
          · simp only [List.mem_singleton] at h5
            subst h5
            simp at he2
  · rw [hnil] at h
    have : (0 : Int) = s := h
    omega
theorem Crowd.found {s ag a port wait : Int} {L : List E} {ks : List Int} (C : Crowd s ag a port L ks) (hw : 0 ≤ wait) : findI [L] ag a wait = if s ≤ (ks.length : Int) then -1 else if ag < wait then -1 else port := by
  have e : findI [L] ag a wait = findO (findE L a) ag wait := by unfold findI; rw [buck_one]
  rw [e]
  by_cases hs : s ≤ (ks.length : Int)
  · rw [if_pos hs, find_not (C.many hs)]; rfl
  · rw [if_neg hs]
    obtain ⟨M, rfl, _, _⟩ := C.few (by omega)
    obtain ⟨_, hnd, _⟩ := (right_iff.1 C.right).2 0 _ rfl
    rw [find_some_of hnd (x := ⟨a, port, 0, false⟩) (by simp) rfl, findO_some]
    unfold oldI
    simp
end Go.Proofs.Ytnghilcjecjljaa.FdbP
