/-
  Contracts of footwayref04.Same, Far, Sort.
-/
import Derived.Test.YtanceablbmgblaaVecH
import Derived.Deep.AppendLies
import Derived.Deep.LoopGhost
import Derived.Laws.AppendOwnNone
import Derived.LoopTactic
namespace Go.Proofs.Ytanceablbmgblaa.VecP
open Go.RowKit Go.Sort Go.Proofs.Ytanceablbmgblaa.SliceP
set_option linter.unusedVariables false
set_option maxRecDepth 100000

def flat (l : List V) : List Value := (l.map V.cells).flatten
theorem flat_nil : flat [] = [] := rfl
theorem flat_append (l m : List V) : flat (l ++ m) = flat l ++ flat m := by simp [flat]
theorem flat_one (x : V) : flat [x] = x.cells := by simp [flat]
theorem flat_length (l : List V) : (flat l).length = l.length * 4 := by
  have := flatten_length (l.map V.cells) 4 (by intro c hc; obtain ⟨x, _, rfl⟩ := List.mem_map.1 hc; rfl)
  simpa [flat] using this
theorem flat_cell (l : List V) : ∀ u ∈ flat l, u.oneCell' = true := by
  intro u hu
  obtain ⟨c, hc, hu⟩ := List.mem_flatten.1 hu
  obtain ⟨x, _, rfl⟩ := List.mem_map.1 hc
  simp [V.cells] at hu
  rcases hu with rfl | rfl | rfl | rfl <;> rfl
theorem SlV.of_own {w : World} {A : Option Addr} {base c : Nat} {l : List V} (h : w.ownsRow base 23 4 (.slice A l.length c) l.length (flat l)) : SlV w A l :=
  Sl.of_own h rfl (by intro c hc; obtain ⟨x, _, rfl⟩ := List.mem_map.1 hc; rfl) (by omega)
theorem SlV.flat_at {w : World} {b o : Nat} {l : List V} (h : SlV w (some ⟨b, o, none⟩) l) (j : Nat) (u : Value) (hu : (flat l)[j]? = some u) : w.cell? ((⟨b, o, none⟩ : Addr).add j) = some u := by
  have hl : j < l.length * 4 := by rw [← flat_length]; exact (List.getElem?_eq_some_iff.1 hu).1
  obtain ⟨x, hx⟩ : ∃ x, l[j / 4]? = some x := ⟨_, List.getElem?_eq_getElem (by omega)⟩
  have hc : (l.map V.cells)[j / 4]? = some x.cells := by rw [List.getElem?_map, hx]; rfl
  obtain ⟨v, hv⟩ : ∃ v, x.cells[j % 4]? = some v := ⟨_, List.getElem?_eq_getElem (by show _ < 4; omega)⟩
  have hf := getElem?_flatten (l.map V.cells) 4 (j / 4) (j % 4) x.cells v (by intro c hc; obtain ⟨x, _, rfl⟩ := List.mem_map.1 hc; rfl) hc hv
  have e : j / 4 * 4 + j % 4 = j := by omega
  rw [e] at hf
  obtain rfl : v = u := by
    have : some v = some u := hf.symm.trans hu
    injection this
  obtain ⟨b', o', e', _, hcell⟩ := Sl.at_ h hc
  obtain ⟨rfl, rfl⟩ : b = b' ∧ o = o' := by simpa using e'
  have := hcell _ _ hv
  rw [Nat.add_assoc, e] at this
  have ea : (⟨b, o, none⟩ : Addr).add j = ⟨b, o + j, none⟩ := by
    unfold Addr.add
    by_cases hz : j = 0
    · rw [if_pos hz, hz]; rfl
    · rw [if_neg hz]
  rw [ea]; exact this
theorem own_below {w w' : World} {base size n : Nat} {e : TypeId} {v : Value} {xs : List Value} (h : w.ownsRow base e size v n xs) (hb : Below w.heap.size w w') : w'.ownsRow base e size v n xs :=
  h.kept (row := none) ⟨hb.os, hb.tape, hb.output, hb.size, fun k hk _ => hb.block k hk⟩ (by cases v.ownBlock <;> simp)

/-- x put where it belongs. -/
def insV (x : V) : List V → List V
  | [] => [x]
  | y :: r => if x.bet y then x :: y :: r else y :: insV x r
theorem insV_at (x : V) : ∀ (l : List V) (m : Nat), m ≤ l.length → (∀ j y, j < m → l[j]? = some y → x.bet y = false) → (∀ y, l[m]? = some y → x.bet y = true) → insV x l = l.take m ++ x :: l.drop m
  | [], m, hm, _, _ => by
    obtain rfl : m = 0 := by simpa using hm
    rfl
  | y :: r, 0, _, _, h => by
    rw [insV, if_pos (h y rfl)]; rfl
  | y :: r, m + 1, hm, h0, h => by
    rw [insV, if_neg (by rw [h0 0 y (by omega) rfl]; simp), insV_at x r m (by simpa using hm) (fun j z hj hz => h0 (j + 1) z (by omega) (by simpa using hz)) (fun z hz => h z (by simpa using hz))]
    rfl
theorem insV_length (x : V) : ∀ l : List V, (insV x l).length = l.length + 1
  | [] => rfl
  | y :: r => by
    rw [insV]; split
    · rfl
    · rw [List.length_cons, insV_length x r]; rfl
/-- The first k, in order. -/
def sortK (l : List V) : Nat → List V
  | 0 => []
  | k + 1 => insV (l[k]?.getD default) (sortK l k)
theorem sortK_length (l : List V) : ∀ k, (sortK l k).length = k
  | 0 => rfl
  | k + 1 => by rw [sortK, insV_length, sortK_length l k]
theorem sortK_succ {l : List V} {k : Nat} {x : V} (h : l[k]? = some x) : sortK l (k + 1) = insV x (sortK l k) := by rw [sortK, h]; rfl

theorem own_some {w : World} {base size n : Nat} {e : TypeId} {v : Value} {xs : List Value} (h : w.ownsRow base e size v n xs) (hv : v ≠ .slice none 0 0) :
    ∃ g c, v = .slice (some ⟨g, 0, none⟩) n c ∧ base ≤ g ∧ g < w.heap.size ∧ n ≤ c ∧ c ≤ maxLen := by
  rcases h.2 with ⟨h1, _⟩ | ⟨g, c, cur, h1, hb, hg, hn, hm, _, _⟩
  · exact absurd h1 hv
  · exact ⟨g, c, h1, hb, (Array.getElem?_eq_some_iff.1 hg).1, hn, hm⟩
theorem own_base {w : World} {base base' size n : Nat} {e : TypeId} {v : Value} {xs : List Value} (h : w.ownsRow base e size v n xs) (hb : base' ≤ base) : w.ownsRow base' e size v n xs := by
  refine ⟨h.1, ?_⟩
  rcases h.2 with h1 | ⟨g, c, cur, h1, h2, rest⟩
  · exact .inl h1
  · exact .inr ⟨g, c, cur, h1, by omega, rest⟩
theorem flat_take (l : List V) (m : Nat) (h : m ≤ l.length) : (flat (l.take m)).length = m * 4 := by rw [flat_length, List.length_take]; omega
theorem flat_drop (l : List V) (m : Nat) : (flat (l.drop m)).length = (l.length - m) * 4 := by rw [flat_length, List.length_drop]
theorem SlV.alloc {w : World} {A : Option Addr} {l : List V} (h : SlV w A l) (o : Obj) : SlV (w.alloc o) A l := Sl.alloc h o
theorem SlV.drop {w : World} {b o : Nat} {l : List V} (h : SlV w (some ⟨b, o, none⟩) l) (n : Nat) : SlV w (some ⟨b, o + n * 4, none⟩) (l.drop n) := by
  have := Sl.drop h n
  rw [← List.map_drop] at this; exact this
theorem cell_grown {w w' : World} {row : Option Nat} (h : w.grownBy w' row) {b o : Nat} {v : Value} (hb : b < w.heap.size) (hr : some b ≠ row) (hc : w.cell? ⟨b, o, none⟩ = some v) : w'.cell? ⟨b, o, none⟩ = some v :=
  (World.cell?_of_block (h.block b hb hr)).trans hc
theorem lit_cells (x : V) (w : World) (j : Nat) (u : Value) (h : x.cells[j]? = some u) : (w.alloc (.cells #[.int .i64 x.r, .int .i64 x.c, .int .i64 x.b, .int .i64 x.p] 23)).cell? ((⟨w.heap.size, 0, none⟩ : Addr).add j) = some u := by
  match j, h with
  | 0, h => simp [V.cells] at h; subst h; go_simp
  | 1, h => simp [V.cells] at h; subst h; go_simp
  | 2, h => simp [V.cells] at h; subst h; go_simp
  | 3, h => simp [V.cells] at h; subst h; go_simp
  | j + 4, h => simp [V.cells] at h
theorem cell_grown_alloc {w w' : World} {ob : Obj} {row : Option Nat} (h : (w.alloc ob).grownBy w' row) {b o : Nat} {v : Value} (hc : w.cell? ⟨b, o, none⟩ = some v) (hb : b < w.heap.size) (hr : some b ≠ row) : w'.cell? ⟨b, o, none⟩ = some v :=
  cell_grown h (by simp; omega) hr ((World.cell?_alloc_lt w ob ⟨b, o, none⟩ hb).trans hc)
theorem own_ne {b g : Nat} {n c : Nat} (h : b ≠ g) : some b ≠ (Value.slice (some ⟨g, 0, none⟩) n c).ownBlock := by
  show some b ≠ some g
  intro e; injection e with e; exact h e
theorem own_row {B g n c : Nat} (h : B ≤ g) : ∀ k, (Value.slice (some ⟨g, 0, none⟩) n c).ownBlock = some k → B ≤ k := by
  intro k hk
  have hk : some g = some k := hk
  injection hk with hk; omega
theorem SlV.grown {w w' : World} {row : Option Nat} {b o : Nat} {l : List V} (h : SlV w (some ⟨b, o, none⟩) l) (hg : w.grownBy w' row) (hr : some b ≠ row) : SlV w' (some ⟨b, o, none⟩) l := fun hn => by
  obtain ⟨b', o', e, hb, hx⟩ := h hn
  obtain ⟨rfl, rfl⟩ : b = b' ∧ o = o' := by simpa using e
  exact ⟨b, o, rfl, Nat.lt_of_lt_of_le hb hg.size, fun k cs hk j v hj => cell_grown hg hb hr (hx k cs hk j v hj)⟩
theorem no_more {x y : V} {s : List V} {m : Nat} (h : ∀ j y, j < m → s[j]? = some y → x.bet y = false) (hy : s[m]? = some y) (hb : x.bet y = false) : ∀ j y, j < m + 1 → s[j]? = some y → x.bet y = false := by
  intro j z hj hz
  by_cases e : j = m
  · subst e
    have : some y = some z := hy.symm.trans hz
    injection this with this; subst this; exact hb
  · exact h j z (by omega) hz
theorem vec_info : (Try.prog.info? 23).map (fun i => (i.zero, i.size, i.bytes)) = some (some (vv 0 0 0 0), 4, 32) := by kernel_rfl

set_option maxHeartbeats 4000000 in
theorem ref_sort_any (A : Option Addr) (cap0 : Nat) (l : List V) (w : World) (hl : l.length ≤ 1000000) (h : SlV w A l) :
    Calls Try.prog 19 #[.slice A l.length cap0] w fun e w' => (∃ g cap, e = .returned (.slice (some ⟨g, 0, none⟩) (sortK l l.length).length cap) ∧ SlV w' (some ⟨g, 0, none⟩) (sortK l l.length)) ∧ Below w.heap.size w w' := by
  have H := Lib.hid h
  clear h
  obtain ⟨i0, hi, hz0, hz1, hz2⟩ := info_parts vec_info
  go_enter Try.func19, Try.ntmps19
  go_wp2_with fail
  go_loopw [3, 11] (fun out i wr => ∃ k g cap, k ≤ l.length ∧ i = .int .i64 (k : Nat) ∧ out = .slice (some ⟨g, 0, none⟩) (sortK l k).length cap ∧ wr.ownsRow w.heap.size 23 4 (.slice (some ⟨g, 0, none⟩) (sortK l k).length cap) (sortK l k).length (flat (sortK l k)) ∧ Below w.heap.size w wr) (fun _ i _ => l.length - (intOf i).toNat)
  case atStart => exact ⟨0, w.heap.size, 0, by omega, rfl, rfl, World.ownsRow_made w #[] 0 (Nat.le_refl _) (by unfold maxLen; omega) rfl, (Below.refl _ _).alloc (Nat.le_refl _) _⟩
  case round =>
    obtain ⟨k, g, cap, hk, rfl, rfl, hown, hb⟩ := hrel
    by_cases hlt : k < l.length
    · obtain ⟨x, hx⟩ : ∃ x, l[k]? = some x := ⟨_, List.getElem?_eq_getElem hlt⟩
      have hsk := Lib.hid (sortK_succ hx)
      have hlen := sortK_length l k
      generalize sortK l k = s at *
      obtain ⟨b, o, rfl, hbw, x0, x1, x2, x3⟩ := H.out.at_ hx
      replace x0 := (hb.cell (p := ⟨b, _, none⟩) hbw).trans x0
      replace x1 := (hb.cell (p := ⟨b, _, none⟩) hbw).trans x1
      replace x2 := (hb.cell (p := ⟨b, _, none⟩) hbw).trans x2
      replace x3 := (hb.cell (p := ⟨b, _, none⟩) hbw).trans x3
      replace hown := Lib.hid hown
      replace hx := Lib.hid hx
      replace hlen := Lib.hid hlen
      have hs1 : s.length ≤ 1000000 := by have := hlen.out; omega
      go_wp2_with fail
      obtain ⟨W, hW⟩ : ∃ W, W = wr.alloc (.cells #[.int .i64 x.r, .int .i64 x.c, .int .i64 x.b, .int .i64 x.p] 23) := ⟨_, rfl⟩
      have hs := hb.size
      have BW : Below w.heap.size w W := by rw [hW]; exact hb.alloc (by omega) _
      have z0 : W.cell? ⟨wr.heap.size, 0, none⟩ = some (.int .i64 x.r) := by rw [hW]; go_simp
      have z1 : W.cell? ⟨wr.heap.size, 1, none⟩ = some (.int .i64 x.c) := by rw [hW]; go_simp
      have z2 : W.cell? ⟨wr.heap.size, 2, none⟩ = some (.int .i64 x.b) := by rw [hW]; go_simp
      have z3 : W.cell? ⟨wr.heap.size, 3, none⟩ = some (.int .i64 x.p) := by rw [hW]; go_simp
      have zW : wr.heap.size < W.heap.size := by rw [hW]; simp
      have zg : Hid (g < wr.heap.size) := Lib.hid (hown.out.lt g rfl).2
      have hownW : Hid (W.ownsRow w.heap.size 23 4 (.slice (some ⟨g, 0, none⟩) s.length cap) s.length (flat s)) := Lib.hid (by rw [hW]; exact hown.out.alloc _)
      rw [← hW]
      clear hW hown x0 x1 x2 x3 hb hs
      generalize wr.heap.size = nb at *
      go_loopw [6] (fun i wi => ∃ m : Nat, m ≤ s.length ∧ i = .int .i64 m ∧ (∀ j y, j < m → s[j]? = some y → x.bet y = false) ∧ Below W.heap.size W wi) (fun i _ => s.length - (intOf i).toNat)
      case atStart => exact ⟨0, by omega, rfl, fun j y hj => by omega, Below.refl _ _⟩
      case round =>
        obtain ⟨m, hm, rfl, hno, hbi⟩ := hrel
        replace hno := Lib.hid hno
        have zi := hbi.size
        have z0' := (hbi.cell (p := ⟨nb, _, none⟩) zW).trans z0
        have z1' := (hbi.cell (p := ⟨nb, _, none⟩) zW).trans z1
        have z2' := (hbi.cell (p := ⟨nb, _, none⟩) zW).trans z2
        have z3' := (hbi.cell (p := ⟨nb, _, none⟩) zW).trans z3
        by_cases hlm : m < s.length
        · obtain ⟨y, hy⟩ : ∃ y, s[m]? = some y := ⟨_, List.getElem?_eq_getElem hlm⟩
          obtain ⟨b', o', e, hgw, y0, y1, y2, y3⟩ := (SlV.of_own hownW.out).at_ hy
          obtain ⟨rfl, rfl⟩ : g = b' ∧ 0 = o' := by simpa using e
          clear e
          rw [Nat.zero_add] at y0 y1 y2 y3
          have Ky0 := cell_regrown ((hbi.cell (p := ⟨g, _, none⟩) hgw).trans y0)
          have Ky1 := cell_regrown ((hbi.cell (p := ⟨g, _, none⟩) hgw).trans y1)
          have Ky2 := cell_regrown ((hbi.cell (p := ⟨g, _, none⟩) hgw).trans y2)
          have Ky3 := cell_regrown ((hbi.cell (p := ⟨g, _, none⟩) hgw).trans y3)
          have Kz0 := cell_regrown z0'
          have Kz1 := cell_regrown z1'
          have Kz2 := cell_regrown z2'
          have Kz3 := cell_regrown z3'
          clear y0 y1 y2 y3 z0' z1' z2' z3'
          replace hy := Lib.hid hy
          go_wp2_with fail
          have cC := fun (d : Nat) (os : Array Obj) => Calls.regrown_of (ref_better_any x.r x.c x.b x.p y.r y.c y.b y.p (Go.Sort.grow (redrawn wr d) os))
          cases hbt : x.bet y
          all_goals
            have hbt' := Lib.hid hbt
            have hd : betB x.r x.c x.b x.p y.r y.c y.b y.p = _ := hbt
            clear hbt
            rw [hd] at cC; clear hd
            refine wp_region_quiet_below (by kernel_rfl) (by kernel_rfl) ?_
            repeat (first | go_big_quiet_step (exact cC _ _) | quiet_step (exact cC _ _))
            refine wpQuiet_nil ?_
            intro _ hw'
            obtain ⟨⟨dq, osq⟩, hw''⟩ := hw'
            subst hw''
            have hb1 := below_regrown wr dq osq
            have B1 : Below W.heap.size W (Go.Sort.grow (redrawn wr dq) osq) := hbi.trans (hb1.mono zi)
            clear Kz0 Kz1 Kz2 Kz3 Ky0 Ky1 Ky2 Ky3 cC hb1 hbi zi
            generalize Go.Sort.grow (redrawn wr dq) osq = wi at *
          · go_wp2_with fail
            go_roundw
            case rel => exact ⟨m + 1, by omega, by go_num, no_more hno.out hy.out hbt'.out, B1⟩
            case measure => simp [intOf]; omega
          · have hins := Lib.hid (insV_at x s m hm hno.out (fun z hz => by
              have : some y = some z := hy.out.symm.trans hz
              injection this with this; subst this; exact hbt'.out))
            have own1 := own_below hownW.out B1
            have zz0 := (B1.cell (p := ⟨nb, _, none⟩) zW).trans z0
            have zz1 := (B1.cell (p := ⟨nb, _, none⟩) zW).trans z1
            have zz2 := (B1.cell (p := ⟨nb, _, none⟩) zW).trans z2
            have zz3 := (B1.cell (p := ⟨nb, _, none⟩) zW).trans z3
            have zwi := B1.size
            have Bi := BW.trans (B1.mono BW.size)
            have hbs := Bi.size
            obtain ⟨_, _, _, _, _, hcap, hcapm⟩ := own_some own1 (by simp)
            have hcap' := hcap
            clear z0 z1 z2 z3 hbs
            have hS1 := Lib.hid ((SlV.of_own own1).alloc (.cells #[] 23))
            have hgi : g < wi.heap.size := (own1.lt g rfl).2
            replace own1 := Lib.hid own1
            replace hcapm := Lib.hid hcapm
            have hwi := Bi.size
            replace Bi := Lib.hid Bi
            clear B1 hownW BW
            replace zwi : nb < wi.heap.size := by omega
            clear zW
            go_wp2_with (first
              | (at_builtin; (refine wpList_append_own _ rfl (.tmp 31) (.tmp 34) 24 rfl wi.heap.size 23 i0 (vv 0 0 0 0) 4 32 Try.underlying24 hi hz0 hz1 hz2 rfl (by decide) (.slice (some ⟨wi.heap.size, 0, none⟩) 0 0) 0 [] rfl (World.ownsRow_made wi #[] 0 (Nat.le_refl _) (by unfold maxLen; omega) rfl) ⟨g, 0, none⟩ m cap (flat (s.take m)) rfl (flat_take _ _ hm) (SlV.flat_at (hS1.out.take m)) (flat_cell _) (by unfold maxLen; omega) (by omega) (by simp) ?_; intro v1 wa own_1 grow_1 nil_1; simp only [Nat.zero_add, List.nil_append] at own_1; obtain ⟨g1, c1, rfl, hg1, hg1', hc1, _⟩ := own_some own_1 (by intro hh; have := nil_1.1 hh; simp at this); replace own_1 := Lib.hid own_1; have hS2 := Lib.hid (SlV.grown hS1.out grow_1 (own_ne (by omega))); have Ba := Lib.hid ((Bi.out.alloc (by omega) _).grown grow_1 (by simp; omega) (own_row (by omega))); clear hS1 Bi; have hsa := grow_1.size; try simp at hsa; replace zz0 := cell_grown_alloc grow_1 zz0 zwi (own_ne (by omega)); replace zz1 := cell_grown_alloc grow_1 zz1 zwi (own_ne (by omega)); replace zz2 := cell_grown_alloc grow_1 zz2 zwi (own_ne (by omega)); replace zz3 := cell_grown_alloc grow_1 zz3 zwi (own_ne (by omega)); clear nil_1))
              | (at_builtin; (refine wpList_append_own _ rfl (.tmp 36) (.tmp 38) 24 rfl wi.heap.size 23 i0 (vv 0 0 0 0) 4 32 Try.underlying24 hi hz0 hz1 hz2 rfl (by decide) (.slice (some ⟨g1, 0, none⟩) m c1) _ _ rfl (own_1.out.alloc _) ⟨wa.heap.size, 0, none⟩ 1 1 (V.cells x) rfl rfl (lit_cells x wa) (by intro u hu; exact flat_cell [x] u (by rw [flat_one]; exact hu)) (by unfold maxLen; omega) (by omega) (by simp; omega) ?_; intro v2 wb own_2 grow_2 nil_2; obtain ⟨g2, c2, rfl, hg2, hg2', hc2, _⟩ := own_some own_2 (by intro hh; have := nil_2.1 hh; simp at this); replace own_2 := Lib.hid own_2; have hS3 := Lib.hid (SlV.grown (hS2.out.alloc _) grow_2 (own_ne (by omega))); have Bb := Lib.hid ((Ba.out.alloc (by omega) _).grown grow_2 (by simp; omega) (own_row (by omega))); clear hS2 Ba; have hsb := grow_2.size; try simp at hsb; clear nil_2 zz0 zz1 zz2 zz3))
              | (at_builtin; (refine wpList_append_own _ rfl (.tmp 40) (.tmp 43) 24 rfl wi.heap.size 23 i0 (vv 0 0 0 0) 4 32 Try.underlying24 hi hz0 hz1 hz2 rfl (by decide) (.slice (some ⟨g2, 0, none⟩) (m + 1) c2) _ _ rfl own_2.out ⟨g, m * 4, none⟩ (s.length - m) (cap - m) (flat (s.drop m)) rfl (flat_drop _ _) (by have hh := SlV.flat_at (hS3.out.drop m); rw [Nat.zero_add] at hh; exact hh) (flat_cell _) (by unfold maxLen; omega) (by omega) (by omega) ?_; intro v3 wc own_3 grow_3 nil_3; obtain ⟨g3, c3, rfl, hg3, hg3', hc3, _⟩ := own_some own_3 (by intro hh; have := nil_3.1 hh; simp at this); have Bc := Lib.hid (Bb.out.grown grow_3 (by omega) (own_row (by omega))); have e3 : m + 1 + (s.length - m) = s.length + 1 := (by omega); rw [e3] at own_3; rw [e3]; clear e3; replace own_3 := Lib.hid (own_base own_3 hwi); clear nil_3 own_2 own_1 grow_3 grow_2 grow_1 Bb hS3))
              )
            all_goals
              go_roundw
              case rel => exact ⟨k + 1, g3, c3, by omega, by go_num, by rw [sortK_length, hlen.out], by rw [hsk.out, hins.out]; have e4 : (s.take m ++ x :: s.drop m).length = s.length + 1 := (by simp; omega); rw [e4]; have hh := own_3.out; rw [← flat_one, ← flat_append, ← flat_append, List.append_assoc, List.singleton_append] at hh; exact hh, Bc.out⟩
              case measure => simp [intOf]; omega
        · obtain rfl : m = s.length := by omega
          have hins := Lib.hid (insV_at x s s.length hm hno.out (fun z hz => by rw [List.getElem?_eq_none (by omega)] at hz; cases hz))
          have Kz0 := cell_regrown z0'
          have Kz1 := cell_regrown z1'
          have Kz2 := cell_regrown z2'
          have Kz3 := cell_regrown z3'
          clear z0' z1' z2' z3'
          go_wp2_with fail
          refine wp_region_quiet_below (by kernel_rfl) (by kernel_rfl) ?_
          repeat (first | go_big_quiet_step (fail) | quiet_step (fail))
          refine wpQuiet_nil ?_
          intro _ hw'
          obtain ⟨⟨dq, osq⟩, hw''⟩ := hw'
          subst hw''
          have hb1 := below_regrown wr dq osq
          have B1 : Below W.heap.size W (Go.Sort.grow (redrawn wr dq) osq) := hbi.trans (hb1.mono zi)
          clear Kz0 Kz1 Kz2 Kz3 hb1 hbi zi
          generalize Go.Sort.grow (redrawn wr dq) osq = wi at *
          -- FIN2
          have own1 := own_below hownW.out B1
          have zz0 := (B1.cell (p := ⟨nb, _, none⟩) zW).trans z0
          have zz1 := (B1.cell (p := ⟨nb, _, none⟩) zW).trans z1
          have zz2 := (B1.cell (p := ⟨nb, _, none⟩) zW).trans z2
          have zz3 := (B1.cell (p := ⟨nb, _, none⟩) zW).trans z3
          have zwi := B1.size
          have Bi := BW.trans (B1.mono BW.size)
          have hbs := Bi.size
          obtain ⟨_, _, _, _, _, hcap, hcapm⟩ := own_some own1 (by simp)
          have hcap' := hcap
          clear z0 z1 z2 z3 hbs
          have hS1 := Lib.hid ((SlV.of_own own1).alloc (.cells #[] 23))
          have hgi : g < wi.heap.size := (own1.lt g rfl).2
          replace own1 := Lib.hid own1
          replace hcapm := Lib.hid hcapm
          have hwi := Bi.size
          replace Bi := Lib.hid Bi
          clear B1 hownW BW
          replace zwi : nb < wi.heap.size := by omega
          clear zW
          go_wp2_with (first
            | (at_builtin; (refine wpList_append_own _ rfl (.tmp 31) (.tmp 34) 24 rfl wi.heap.size 23 i0 (vv 0 0 0 0) 4 32 Try.underlying24 hi hz0 hz1 hz2 rfl (by decide) (.slice (some ⟨wi.heap.size, 0, none⟩) 0 0) 0 [] rfl (World.ownsRow_made wi #[] 0 (Nat.le_refl _) (by unfold maxLen; omega) rfl) ⟨g, 0, none⟩ s.length cap (flat (s.take s.length)) rfl (flat_take _ _ hm) (SlV.flat_at (hS1.out.take s.length)) (flat_cell _) (by unfold maxLen; omega) (by omega) (by simp) ?_; intro v1 wa own_1 grow_1 nil_1; simp only [Nat.zero_add, List.nil_append] at own_1; obtain ⟨g1, c1, rfl, hg1, hg1', hc1, _⟩ := own_some own_1 (by intro hh; have := nil_1.1 hh; simp at this); replace own_1 := Lib.hid own_1; have hS2 := Lib.hid (SlV.grown hS1.out grow_1 (own_ne (by omega))); have Ba := Lib.hid ((Bi.out.alloc (by omega) _).grown grow_1 (by simp; omega) (own_row (by omega))); clear hS1 Bi; have hsa := grow_1.size; try simp at hsa; replace zz0 := cell_grown_alloc grow_1 zz0 zwi (own_ne (by omega)); replace zz1 := cell_grown_alloc grow_1 zz1 zwi (own_ne (by omega)); replace zz2 := cell_grown_alloc grow_1 zz2 zwi (own_ne (by omega)); replace zz3 := cell_grown_alloc grow_1 zz3 zwi (own_ne (by omega)); clear nil_1))
            | (at_builtin; (refine wpList_append_own _ rfl (.tmp 36) (.tmp 38) 24 rfl wi.heap.size 23 i0 (vv 0 0 0 0) 4 32 Try.underlying24 hi hz0 hz1 hz2 rfl (by decide) (.slice (some ⟨g1, 0, none⟩) s.length c1) _ _ rfl (own_1.out.alloc _) ⟨wa.heap.size, 0, none⟩ 1 1 (V.cells x) rfl rfl (lit_cells x wa) (by intro u hu; exact flat_cell [x] u (by rw [flat_one]; exact hu)) (by unfold maxLen; omega) (by omega) (by simp; omega) ?_; intro v2 wb own_2 grow_2 nil_2; obtain ⟨g2, c2, rfl, hg2, hg2', hc2, _⟩ := own_some own_2 (by intro hh; have := nil_2.1 hh; simp at this); replace own_2 := Lib.hid own_2; have hS3 := Lib.hid (SlV.grown (hS2.out.alloc _) grow_2 (own_ne (by omega))); have Bb := Lib.hid ((Ba.out.alloc (by omega) _).grown grow_2 (by simp; omega) (own_row (by omega))); clear hS2 Ba; have hsb := grow_2.size; try simp at hsb; clear nil_2 zz0 zz1 zz2 zz3))
            )
          all_goals
            go_roundw
            case rel => exact ⟨k + 1, g2, c2, by omega, by go_num, by rw [sortK_length, hlen.out], by rw [hsk.out, hins.out]; have hh := own_base own_2.out hwi; rw [← flat_one, ← flat_append] at hh; simpa using hh, Bb.out⟩
            case measure => simp [intOf]; omega
    · obtain rfl : k = l.length := by omega
      replace hown := Lib.hid hown
      go_wp2_with fail
      go_ret
      exact ⟨⟨g, cap, rfl, SlV.of_own hown.out⟩, hb⟩
end Go.Proofs.Ytanceablbmgblaa.VecP
