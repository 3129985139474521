/-
  Contracts of flood.nearer, and of slices.Reverse at []int.
-/
import Derived.Test.YtgcmklliafcffaaFloodS
import Derived.BigRegion
namespace Go.Proofs.Ytgcmklliafcffaa.LanP
open Go.RowKit Go.Sort Go.Proofs.Ytgcmklliafcffaa.SliceP Go.Proofs.Ytgcmklliafcffaa.BoxP
open Go.Proofs.Ytgcmklliafcffaa.IntP (RowI SlI OwnI)
open Go.Proofs.Ytgcmklliafcffaa.BoolP (RowB SlB OwnB)
open Go.Proofs.Ytgcmklliafcffaa.MacP (arr_out Wrote wp_region_ends outM)
set_option linter.unusedVariables false
set_option maxRecDepth 100000
/- The least segment a step nearer. -/
def mnS (l : L) (f s : Int) (T : List Int) : Int := (T.filter fun x => l.dst f x == l.dst f s - 1).foldl min l.segs
theorem mn_snoc (l : L) (f s : Int) (T : List Int) (x : Int) : mnS l f s (T ++ [x]) = if (l.dst f x == l.dst f s - 1) = true then min (mnS l f s T) x else mnS l f s T := by
  unfold mnS
  rw [List.filter_append, List.foldl_append, List.filter_cons, List.filter_nil]
  split <;> rfl
def nrS (l : L) (f s : Int) : Int := mnS l f s (acr l s)
theorem foldmin : ∀ (T : List Int) (a : Int), (T.foldl min a ≤ a ∧ ∀ x ∈ T, T.foldl min a ≤ x) ∧ (T.foldl min a = a ∨ T.foldl min a ∈ T)
  | [], a => ⟨⟨Int.le_refl _, fun x h => by cases h⟩, .inl rfl⟩
  | b :: T, a => by
    obtain ⟨⟨h1, h2⟩, h3⟩ := foldmin T (min a b)
    have hm := min_is a b
    refine ⟨⟨?_, fun x hx => ?_⟩, ?_⟩
    · show T.foldl min (min a b) ≤ a; omega
    · show T.foldl min (min a b) ≤ x
      rcases List.mem_cons.1 hx with rfl | hx
      · omega
      · exact h2 x hx
    · show T.foldl min (min a b) = a ∨ T.foldl min (min a b) ∈ b :: T
      rcases h3 with h3 | h3
      · rcases hm with ⟨e, _⟩ | ⟨e, _⟩
        · left; rw [h3, e]
        · right; rw [h3, e]; simp
      · right; exact List.mem_cons_of_mem _ h3
theorem nr_is {l : L} (hf : l.fit) {f s : Int} (f0 : 0 ≤ f) (f1 : f < l.segs) (s0 : 0 ≤ s) (s1 : s < l.segs) (hp : 0 < l.dst f s) : lnk l (nrS l f s) s = true ∧ l.dst f (nrS l f s) = l.dst f s - 1 ∧ ∀ t, lnk l t s = true → l.dst f t = l.dst f s - 1 → nrS l f s ≤ t := by
  obtain ⟨u, h1, h2⟩ := (dst_is hf f0 f1).back s s0 s1 hp
  have hu := lnk_in hf h1
  obtain ⟨⟨a, b⟩, c⟩ := foldmin ((acr l s).filter fun x => l.dst f x == l.dst f s - 1) l.segs
  have hmem : ∀ t, lnk l t s = true → l.dst f t = l.dst f s - 1 → t ∈ (acr l s).filter fun x => l.dst f x == l.dst f s - 1 := fun t h3 h4 => List.mem_filter.2 ⟨mem_acr.2 (lnk_symm h3), by simpa using h4⟩
  have hle := b u (hmem u h1 h2)
  have hin : nrS l f s ∈ (acr l s).filter fun x => l.dst f x == l.dst f s - 1 := by
    rcases c with c | c
    · unfold nrS mnS at *; omega
    · exact c
  obtain ⟨h3, h4⟩ := List.mem_filter.1 hin
  exact ⟨lnk_symm (mem_acr.1 h3), by simpa using h4, fun t h5 h6 => b t (hmem t h5 h6)⟩
/-- nearer's closure. -/
structure NI (l : L) (f : Int) (S : Option Addr) (c b4 b5 b7 : Nat) (s : Int) (T : List Int) (σ : Nat → Prop) (W : World) : Prop where
  st : Bx W b4 43 #[.slice S (stpR l f).length c]
  row : Row ic 1 W S (stpR l f).length c (stpR l f)
  sg : Bx W b5 3 #[.int .i64 s]
  ls : Bx W b7 3 #[.int .i64 (mnS l f s T)]
  σis : ∀ b, σ b ↔ b = b7
theorem stp_at {l : L} (hf : l.fit) {f : Int} {k : Nat} (hk : (k : Int) < l.segs) : (stpR l f)[k]? = some (l.dst f k) := by
  unfold stpR
  rw [List.getElem?_map, List.getElem?_range (by unfold L.n; omega)]; rfl
theorem stp_len (l : L) (f : Int) : (stpR l f).length = l.n := by unfold stpR; rw [List.length_map, List.length_range]
set_option maxHeartbeats 4000000 in
theorem n_call {l : L} (hf : l.fit) (h8 : l.n ≤ 8) {f : Int} (f0 : 0 ≤ f) (f1 : f < l.segs) {S : Option Addr} {c b4 b5 b7 : Nat} {s : Int} (s0 : 0 ≤ s) (s1 : s < l.segs) {T : List Int} {σ : Nat → Prop} {W : World} {x : Int} (hl : lnk l s x = true) (h : NI l f S c b4 b5 b7 s T σ W) (d1 : b7 ≠ b4) (d2 : b7 ≠ b5) (d3 : ∀ a, S = some a → a.block ≠ b7) :
    Calls Try.prog 95 #[.int .i64 x, .pointer (some ⟨b4, 0, none⟩), .pointer (some ⟨b5, 0, none⟩), .pointer (some ⟨b7, 0, none⟩)] W fun e W' => e = .returned (.tuple #[]) ∧ ∃ σ', NI l f S c b4 b5 b7 s (T ++ [x]) σ' W' ∧ (∀ b, σ' b → σ b ∨ W.heap.size ≤ b) ∧ Stay σ W W' := by
  obtain ⟨k, rfl⟩ := nat_of (lnk_in hf hl).2.1 (lnk_in hf hl).2.2
  have hk := (lnk_in hf hl).2.2
  obtain ⟨m, rfl⟩ := nat_of s0 s1
  have hn : (l.n : Int) = l.segs := by have := hf.1; unfold L.n; omega
  have D := dst_is hf f0 f1
  obtain ⟨dk, hdk⟩ : ∃ d, l.dst f k = d := ⟨_, rfl⟩
  obtain ⟨dm, hdm⟩ : ∃ d, l.dst f m = d := ⟨_, rfl⟩
  have hb1 := D.ge m (by omega) s1
  have hb2 := dst_lt hf D (t := (m : Int)) (by omega) s1
  rw [hdm] at hb1 hb2
  have hmk := stp_at hf (f := f) hk
  have hmm := stp_at hf (f := f) s1
  rw [hdk] at hmk
  rw [hdm] at hmm
  have hsn := mn_snoc l f m T k
  rw [hdk, hdm] at hsn
  obtain ⟨mt, hmt⟩ : ∃ v, mnS l f m T = v := ⟨_, rfl⟩
  rw [hmt] at hsn
  have H := Lib.hid h
  have hls := h.ls
  rw [hmt] at hls
  have hlen := stp_len l f
  obtain ⟨bS, oS, hAS, hbS, r0⟩ := Row.iat h.row hmk
  obtain ⟨bS2, oS2, hAS2, hbS2, r1⟩ := Row.iat h.row hmm
  rw [hAS] at hAS2
  have hAA := Option.some.inj hAS2
  have e1 : bS2 = bS := by injection hAA with e; exact e.symm
  have e2 : oS2 = oS := by injection hAA with _ e; exact e.symm
  subst e1; subst e2
  have hcap := h.row.cap
  have hmx := h.row.mx
  rw [hlen] at hcap
  subst hAS
  have y0 := h.st.c (i := 0) rfl
  rw [hlen] at y0
  have y1 := h.sg.c (i := 0) rfl
  have y2 := hls.c (i := 0) rfl
  have y3 := hls.f 0
  have z0 := h.st.lt
  have z1 := h.sg.lt
  have z2 := hls.lt
  have hkn : (k : Int) < (l.n : Int) := by omega
  have hmn : (m : Int) < (l.n : Int) := by omega
  have hwr : wrap64 (dm - 1) = dm - 1 := IntWalk.wrap64_in _ (by omega)
  have hn8 : (l.n : Int) ≤ 8 := by omega
  replace hdk := Lib.hid hdk
  replace hdm := Lib.hid hdm
  replace hsn := Lib.hid hsn
  replace hmt := Lib.hid hmt
  replace hmk := Lib.hid hmk
  replace hmm := Lib.hid hmm
  replace hlen := Lib.hid hlen
  replace hn := Lib.hid hn
  have L0 := Lib.hid hls
  have hd3 := Lib.hid (d3 _ rfl)
  clear h hls d3 hAA hAS2 s0 s1 hk
  go_enter Try.func95, Try.ntmps95
  go_upto_region 0 with fail
  go_quiet (fail)
  obtain ⟨w8, hw8⟩ : ∃ V, V = W.drewN nq := ⟨_, rfl⟩
  have bb8 : Below W.heap.size W w8 := by rw [hw8]; exact ⟨rfl, rfl, rfl, Nat.le_refl _, fun _ _ => rfl⟩
  rw [← hw8]
  clear hw8 y0 y1 y2 y3 z0 z1 z2 r0 r1 hbS
  have st8 := Lib.hid (bb8)
  have L8 := Lib.hid (L0.out.below bb8)
  have N8 := Lib.hid (show NI l f (some ⟨bS2, oS2, none⟩) c b4 b5 b7 m T σ w8 from ⟨H.out.st.below bb8, H.out.row.below bb8, H.out.sg.below bb8, H.out.ls.below bb8, H.out.σis⟩)
  clear bb8
  cases hq : (dk == dm - 1)
  · have he := Lib.hid (show mnS l f m (T ++ [(k : Int)]) = mt by rw [hsn.out, hq, if_neg (by simp)])
    go_wp2_with fail
    refine bodyPost_end (v := .tuple #[]) (by simp [results, Try.results95, go_sem]) rfl ⟨rfl, σ, ⟨N8.out.st, N8.out.row, N8.out.sg, by rw [he.out]; exact L8.out, N8.out.σis⟩, fun b h => .inl h, Stay.of st8.out⟩
  · have y2 := L8.out.c (i := 0) rfl
    have y3 := L8.out.f 0
    have z2 := L8.out.lt
    obtain ⟨r, hr⟩ : ∃ r, min mt (k : Int) = r := ⟨_, rfl⟩
    have q1 : (if (k : Int) < mt then (k : Int) else mt) = r := by rw [← hr]; split <;> omega
    have he := Lib.hid (show mnS l f m (T ++ [(k : Int)]) = r by rw [hsn.out, hq, if_pos rfl]; exact hr)
    go_wp2_with fail
    refine bodyPost_end (v := .tuple #[]) (by simp [results, Try.results95, go_sem]) rfl ⟨rfl, σ, ⟨N8.out.st.other d1.symm _ _, ?_, N8.out.sg.other d2.symm _ _, by rw [he.out]; exact L8.out.set 0 _, N8.out.σis⟩, fun b h => .inl h, (Stay.of st8.out).trans (Stay.set ((N8.out.σis b7).2 rfl) _ _ _)⟩
    exact (Stay.set (S := fun b => b = b7) rfl _ _ _).row N8.out.row (fun _ a ha h => by cases ha; exact hd3.out h)
theorem n_tel {l : L} (hf : l.fit) (h8 : l.n ≤ 8) {f : Int} (f0 : 0 ≤ f) (f1 : f < l.segs) {S : Option Addr} {c b4 b5 b7 : Nat} {s : Int} (s0 : 0 ≤ s) (s1 : s < l.segs) (d1 : b7 ≠ b4) (d2 : b7 ≠ b5) (d3 : ∀ a, S = some a → a.block ≠ b7) :
    Tel (fun x => #[.int .i64 x]) 95 #[.pointer (some ⟨b4, 0, none⟩), .pointer (some ⟨b5, 0, none⟩), .pointer (some ⟨b7, 0, none⟩)] (fun x => lnk l s x = true) (fun b => b = b4 ∨ b = b5 ∨ ∃ a, S = some a ∧ a.block = b) (NI l f S c b4 b5 b7 s) :=
  ⟨enters_of Try.func95 (by kernel_rfl) rfl, fun T σ W h b hb => by rw [(h.σis b).1 hb]; exact h.ls.lt,
    fun T σ W S' W' h k hS => ⟨k.bx h.st (fun e => (hS _ e).2 (.inl rfl)), k.row h.row (fun _ a ha e => (hS _ e).2 (.inr (.inr ⟨a, ha, rfl⟩))), k.bx h.sg (fun e => (hS _ e).2 (.inr (.inl rfl))), k.bx h.ls (fun e => (hS _ e).1 ((h.σis _).2 rfl)), h.σis⟩,
    fun T σ W x hx _ h => n_call hf h8 f0 f1 s0 s1 hx h d1 d2 d3⟩
set_option maxHeartbeats 8000000 in
theorem o_nearer {l : L} {A : Option Addr} {c : Nat} {B : Option Addr} {d : Nat} {w : World} {S : Option Addr} {cS : Nat} (hr : LanR w l A c B d) (hs : Small l) (ho : l.ok = true) {f s : Int} (f0 : 0 ≤ f) (f1 : f < l.segs) (s0 : 0 ≤ s) (s1 : s < l.segs) (hrow : Row ic 1 w S (stpR l f).length cS (stpR l f)) :
    Calls Try.prog 60 #[lv l A c B d, .slice S (stpR l f).length cS, .int .i64 s] w fun e w' => e = .returned (.int .i64 (nrS l f s)) ∧ Below w.heap.size w w' := by
  have hF := ok_fit ho
  have h8 := ok_small8 ho
  have hwhy : whyI l s = 0 := by unfold whyI; rw [if_pos ho, if_pos ⟨s0, s1⟩]
  obtain ⟨w0, hw0, X0, R0, B0⟩ := new3 w hr
  have hz0 : w0.heap.size = w.heap.size + 1 := by rw [hw0]; simp
  obtain ⟨b4, hb4⟩ : ∃ b, b = w.heap.size + 1 := ⟨_, rfl⟩
  obtain ⟨b5, hb5⟩ : ∃ b, b = w.heap.size + 1 + 1 := ⟨_, rfl⟩
  obtain ⟨b7, hb7⟩ : ∃ b, b = w.heap.size + 1 + 1 + 1 := ⟨_, rfl⟩
  obtain ⟨w1, hw1⟩ : ∃ W, W = w0.alloc (.cells #[.slice S (stpR l f).length cS] 43) := ⟨_, rfl⟩
  have hz1 : w1.heap.size = w.heap.size + 1 + 1 := by rw [hw1]; simp; omega
  obtain ⟨w2, hw2⟩ : ∃ W, W = w1.alloc (.cells #[.int .i64 s] 3) := ⟨_, rfl⟩
  have hz2 : w2.heap.size = w.heap.size + 1 + 1 + 1 := by rw [hw2]; simp; omega
  obtain ⟨w3, hw3⟩ : ∃ W, W = w2.alloc (.cells #[.int .i64 l.segs] 3) := ⟨_, rfl⟩
  have b1 : Below w0.heap.size w0 w1 := by rw [hw1]; exact (Below.refl _ _).alloc (Nat.le_refl _) _
  have b2 : Below w1.heap.size w1 w2 := by rw [hw2]; exact (Below.refl _ _).alloc (Nat.le_refl _) _
  have b3 : Below w2.heap.size w2 w3 := by rw [hw3]; exact (Below.refl _ _).alloc (Nat.le_refl _) _
  have B3 := Lib.hid (bt (bt (bt B0 b1) b2) b3)
  have X3 := Lib.hid (((X0.below b1).below b2).below b3)
  have N3 := Lib.hid (show NI l f S cS b4 b5 b7 s [] (fun b => b = b7) w3 from
    ⟨((show Bx w1 b4 43 #[.slice S (stpR l f).length cS] by rw [hw1]; exact Bx.new _ _ _ (by omega)).below b2).below b3, hrow.below B3.out,
      (show Bx w2 b5 3 #[.int .i64 s] by rw [hw2]; exact Bx.new _ _ _ (by omega)).below b3, by rw [hw3]; exact Bx.new _ _ _ (by omega), fun b => Iff.rfl⟩)
  have hd3 : ∀ a, S = some a → a.block ≠ b7 := fun a ha e => by
    have hne : stpR l f ≠ [] := by
      intro q
      have := congrArg List.length q
      rw [stp_len] at this
      have := (ok_segs ho).2.2
      have := (ok_segs ho).1
      simp at *
      omega
    have := Row.in_ hrow hne a ha
    omega
  have ha := Lib.hid (o_across (n_tel hF h8 f0 f1 s0 s1 (by omega) (by omega) hd3) (fun W (hW : Stay (fun b => b = b7) w3 W) => hr.below (B3.out.trans (hW.below (fun b hb => by rw [hb]; omega) B3.out.size))) hs hwhy N3.out)
  have hnr := Lib.hid (show ∀ σ' W, NI l f S cS b4 b5 b7 s (acr l s) σ' W → Bx W b7 3 #[.int .i64 (nrS l f s)] from fun σ' W h => h.ls)
  have hb73 := Lib.hid (show w.heap.size ≤ b7 by omega)
  have Y3 := Lib.hid N3.out.sg
  obtain ⟨sl, hsl⟩ : ∃ n, (stpR l f).length = n := ⟨_, rfl⟩
  rw [hsl] at hw1 ⊢
  replace hsl := Lib.hid hsl
  clear hr hrow R0 X0 B0 b1 b2 b3 N3 hd3 hz0 hz1 hz2 f0 f1 s0 s1
  go_enter Try.func60, Try.ntmps60
  go_upto_region 2 with fail
  rw [← hb7, ← hb5, ← hb4, ← hw0, ← hw1, ← hw2, ← hw3]
  clear hb7 hb5 hb4 hw0 hw1 hw2 hw3
  have x0 := X3.out.c (i := 0) rfl
  have x1 := X3.out.c (i := 1) rfl
  have x2 := X3.out.c (i := 2) rfl
  have zz := X3.out.lt
  have y0 := Y3.out.c (i := 0) rfl
  have yz := Y3.out.lt
  go_wp2_with fail
  go_at_call 86
  (with_reducible refine ha.out.mono ?_)
  rintro e w4 ⟨rfl, σ4, hI, _, hst⟩
  have Y4 := Lib.hid (hnr.out σ4 w4 hI)
  have B4 := Lib.hid (show Below w.heap.size w w4 from B3.out.trans (hst.below (fun b hb => by rw [hb]; exact hb73.out) B3.out.size))
  clear hI hst x0 x1 x2 zz y0 yz ha hnr X3 Y3 B3
  have y0 := Y4.out.c (i := 0) rfl
  have yz := Y4.out.lt
  go_wp2_with fail
  go_ret
  exact ⟨rfl, B4.out⟩
/- In reverse. -/
def revTo (L : List Int) (i : Nat) : List Int := (List.range L.length).map fun k => if k < i ∨ L.length - i ≤ k then L.getD (L.length - 1 - k) 0 else L.getD k 0
theorem rev_len (L : List Int) (i : Nat) : (revTo L i).length = L.length := by unfold revTo; simp
theorem rev_get (L : List Int) (i : Nat) {k : Nat} (hk : k < L.length) : (revTo L i)[k]? = some (if k < i ∨ L.length - i ≤ k then L.getD (L.length - 1 - k) 0 else L.getD k 0) := by
  unfold revTo; rw [List.getElem?_map, List.getElem?_range hk]; rfl
theorem rev_zero (L : List Int) : revTo L 0 = L := by
  apply List.ext_getElem?
  intro k
  by_cases h : k < L.length
  · rw [rev_get L 0 h, if_neg (by omega), List.getD_eq_getElem?_getD, List.getElem?_eq_getElem h]; rfl
  · rw [List.getElem?_eq_none (by rw [rev_len]; omega), List.getElem?_eq_none (by omega)]
theorem rev_all (L : List Int) {i : Nat} (h : L.length - 1 ≤ 2 * i) (h2 : 2 * i ≤ L.length) : revTo L i = L.reverse := by
  apply List.ext_getElem?
  intro k
  by_cases hk : k < L.length
  · rw [rev_get L i hk, List.getElem?_reverse hk]
    have e : L.length - 1 - k < L.length := by omega
    split
    · rw [List.getD_eq_getElem?_getD, List.getElem?_eq_getElem e]; rfl
    · rename_i hn
      have hkk : L.length - 1 - k = k := by omega
      rw [hkk, List.getD_eq_getElem?_getD, List.getElem?_eq_getElem hk]; rfl
  · rw [List.getElem?_eq_none (by rw [rev_len]; omega), List.getElem?_eq_none (by rw [List.length_reverse]; omega)]
theorem rev_succ (L : List Int) {i : Nat} (h : i < L.length - 1 - i) : ((revTo L i).set i (L.getD (L.length - 1 - i) 0)).set (L.length - 1 - i) (L.getD i 0) = revTo L (i + 1) := by
  apply List.ext_getElem?
  intro k
  rw [List.getElem?_set, List.getElem?_set, List.length_set, rev_len]
  by_cases hk : k < L.length
  · rw [rev_get L i hk, rev_get L (i + 1) hk]
    by_cases e1 : L.length - 1 - i = k
    · rw [if_pos e1, if_pos (by omega), if_pos (by omega), show L.length - 1 - k = i by omega]
    · rw [if_neg e1]
      by_cases e2 : i = k
      · subst e2
        rw [if_pos rfl, if_pos (by omega), if_pos (by omega)]
      · rw [if_neg e2]
        congr 1
        by_cases e3 : k < i ∨ L.length - i ≤ k
        · rw [if_pos e3, if_pos (by omega)]
        · rw [if_neg e3, if_neg (by omega)]
  · rw [if_neg (by omega), if_neg (by omega), List.getElem?_eq_none (by rw [rev_len]; omega), List.getElem?_eq_none (by rw [rev_len]; omega)]
set_option maxHeartbeats 8000000 in
theorem o_reverse {B g c : Nat} {L : List Int} {w : World} (h : Own w B 3 1 (.slice (some ⟨g, 0, none⟩) L.length c) (L.map ic)) (hl : L.length ≤ 1000) (h0 : 1 ≤ L.length) (hB : B ≤ g) {M : List Int} (hM : L.reverse = M) :
    Calls Try.prog 61 #[.slice (some ⟨g, 0, none⟩) L.length c] w fun e w' => e = .returned (.tuple #[]) ∧ Own w' B 3 1 (.slice (some ⟨g, 0, none⟩) L.length c) (M.map ic) ∧ Below B w w' := by
  replace hM := Lib.hid hM
  have O0 := Lib.hid h
  obtain ⟨n, hn⟩ : ∃ n, L.length = n := ⟨_, rfl⟩
  rw [hn] at O0 ⊢
  have hn1 : 1 ≤ n := by omega
  have hnn : n ≤ 1000 := by omega
  have hw1 : wrap64 ((n : Int) - 1) = (n : Int) - 1 := IntWalk.wrap64_in _ (by omega)
  have hBg := Lib.hid hB
  replace hn := Lib.hid hn
  clear h
  go_enter Try.func61, Try.ntmps61
  go_wp2_with fail
  go_loopw [2, 3] (fun i j wr => ∃ k : Nat, i = .int .i64 k ∧ j = .int .i64 ((n : Int) - 1 - k) ∧ 2 * k ≤ n ∧ Own wr B 3 1 (.slice (some ⟨g, 0, none⟩) n c) ((revTo L k).map ic) ∧ Below B w wr) (fun i _ _ => n - (intOf i).toNat)
  case atStart => exact ⟨0, rfl, by simp, by omega, by rw [rev_zero]; exact O0.out, Below.refl _ _⟩
  case round =>
    clear O0
    obtain ⟨k, rfl, rfl, hk2, hown, hb⟩ := hrel
    by_cases hlt : k < n - 1 - k
    · obtain ⟨j, hj⟩ : ∃ j, n - 1 - k = j := ⟨_, rfl⟩
      have hji : (n : Int) - 1 - (k : Int) = (j : Int) := by omega
      rw [hji]
      replace hji := Lib.hid hji
      have hkj : (k : Int) < (j : Int) := by omega
      have hjn : (j : Int) < (n : Int) := by omega
      have hkn : (k : Int) < (n : Int) := by omega
      have hlj : L.length - 1 - k = j := by rw [hn.out]; exact hj
      have hs := rev_succ L (i := k) (by rw [hn.out]; omega)
      rw [hlj] at hs
      have g1 := rev_get L k (k := k) (by rw [hn.out]; omega)
      rw [if_neg (by rw [hn.out]; omega)] at g1
      have g2 := rev_get L k (k := j) (by rw [hn.out]; omega)
      rw [if_neg (by rw [hn.out]; omega)] at g2
      obtain ⟨a, ha⟩ : ∃ a, L.getD k 0 = a := ⟨_, rfl⟩
      obtain ⟨b, hb2⟩ : ∃ a, L.getD j 0 = a := ⟨_, rfl⟩
      rw [ha] at g1 hs
      rw [hb2] at g2 hs
      have c1 : wr.cell? ⟨g, k, none⟩ = some (.int .i64 a) := by have := own_cell hown (by decide) (j := k) (i := 0) (cs := ic a) (by rw [List.getElem?_map, g1]; rfl) rfl; simpa using this
      have c2 : wr.cell? ⟨g, j, none⟩ = some (.int .i64 b) := by have := own_cell hown (by decide) (j := j) (i := 0) (cs := ic b) (by rw [List.getElem?_map, g2]; rfl) rfl; simpa using this
      have f1 := (own_free hown k).1
      have f2 := (own_free hown j).1
      have gl := (own_free hown j).2
      have hput := Lib.hid (own_put1 (own_put1 hown (j := k) (by rw [List.length_map, rev_len, hn.out]; omega) (v := .int .i64 b) rfl) (j := j) (by rw [List.length_set, List.length_map, rev_len, hn.out]; omega) (v := .int .i64 a) rfl)
      have hmp := Lib.hid (show (((revTo L k).map ic).set k [.int .i64 b]).set j [.int .i64 a] = (revTo L (k + 1)).map ic by rw [← hs, List.map_set, List.map_set])
      have hne : ¬ k = j := by omega
      have hne2 : ¬ j = k := by omega
      have hwj : wrap64 ((j : Int) - 1) = (j : Int) - 1 := IntWalk.wrap64_in _ (by omega)
      have hB9 := Lib.hid (((hb.setCell (p := ⟨g, k, none⟩) hBg.out (.int .i64 b)).setCell (p := ⟨g, j, none⟩) hBg.out (.int .i64 a)).drew)
      replace hj := Lib.hid hj
      replace hlj := Lib.hid hlj
      replace hs := Lib.hid hs
      replace g1 := Lib.hid g1
      replace g2 := Lib.hid g2
      replace ha := Lib.hid ha
      replace hb2 := Lib.hid hb2
      clear hown hb
      go_upto_region 3 with fail
      go_region
      have ow := hput.out
      rw [hmp.out] at ow
      have ow2 := Lib.hid (ow.below ((Below.refl _ _).drew))
      have hk3 : 2 * (k + 1) ≤ n := by have := hj.out; omega
      clear ow hput hmp c1 c2 f1 f2 gl
      go_wp2_with fail
      go_roundw
      case rel => exact ⟨k + 1, by go_num, by have := hji.out; congr 1; omega, hk3, ow2.out, hB9.out⟩
      case measure => simp [intOf]; omega
    · have hge : ¬ ((k : Int) < (n : Int) - 1 - (k : Int)) := by omega
      have hall := rev_all L (i := k) (by rw [hn.out]; omega) (by rw [hn.out]; exact hk2)
      have O9 := hown
      rw [hall, hM.out] at O9
      replace O9 := Lib.hid O9
      replace hb := Lib.hid hb
      replace hall := Lib.hid hall
      clear hown
      go_wp2_with fail
      exact bodyPost_end (v := .tuple #[]) (by simp [results, Try.results61, go_sem]) rfl ⟨rfl, O9.out, hb.out⟩
end Go.Proofs.Ytgcmklliafcffaa.LanP
