/-
  Contracts of slices.Repeat at []int, of the closures that flood's walk tells, of stepsFrom.
-/
import Derived.Test.YtgcmklliafcffaaFloodC
import Derived.Test.YtgcmklliafcffaaRowK
import Derived.BigRegion
namespace Go.Proofs.Ytgcmklliafcffaa.LanP
open Go.RowKit Go.Sort Go.Proofs.Ytgcmklliafcffaa.SliceP Go.Proofs.Ytgcmklliafcffaa.BoxP
open Go.Proofs.Ytgcmklliafcffaa.IntP (RowI SlI OwnI)
open Go.Proofs.Ytgcmklliafcffaa.BoolP (RowB SlB OwnB)
open Go.Proofs.Ytgcmklliafcffaa.MacP (arr_out Wrote wp_region_ends outM)
set_option linter.unusedVariables false
set_option maxRecDepth 100000
set_option maxHeartbeats 4000000 in
theorem o_mul64 {n : Nat} (h8 : n ≤ 8) (w : World) : Calls Try.prog 139 #[.int .u64 1, .int .u64 n] w fun e w' => e = .returned (.tuple #[.int .u64 0, .int .u64 n]) ∧ w = w' := by
  have hc : n = 0 ∨ n = 1 ∨ n = 2 ∨ n = 3 ∨ n = 4 ∨ n = 5 ∨ n = 6 ∨ n = 7 ∨ n = 8 := by omega
  rcases hc with rfl | rfl | rfl | rfl | rfl | rfl | rfl | rfl | rfl
  all_goals
    go_enter Try.func139, Try.ntmps139
    go_wp2_with fail
    go_ret2
    exact ⟨rfl, rfl⟩
set_option maxHeartbeats 4000000 in
theorem o_mul {n : Nat} (h8 : n ≤ 8) (w : World) : Calls Try.prog 123 #[.int .u64 1, .int .u64 n] w fun e w' => e = .returned (.tuple #[.int .u64 0, .int .u64 n]) ∧ w = w' := by
  go_enter Try.func123, Try.ntmps123
  go_wp2_with fail
  go_at_call 139
  (with_reducible refine (o_mul64 h8 _).mono ?_)
  rintro e w1 ⟨rfl, rfl⟩
  go_wp2_with fail
  go_ret2
  exact ⟨rfl, rfl⟩
theorem rep_step (x : Int) {m n k : Nat} (hk : k = min m (n - m)) (hm : m ≤ n) : (List.replicate m [Value.int .i64 x] ++ List.replicate (n - m) [Value.int .i64 0]).take m ++ List.replicate k [Value.int .i64 x] ++ (List.replicate m [Value.int .i64 x] ++ List.replicate (n - m) [Value.int .i64 0]).drop (m + k) = List.replicate (m + k) [Value.int .i64 x] ++ List.replicate (n - (m + k)) [Value.int .i64 0] := by
  have h1 : (List.replicate m [Value.int .i64 x] ++ List.replicate (n - m) [Value.int .i64 0]).take m = List.replicate m [Value.int .i64 x] := by
    rw [List.take_append_of_le_length (by simp)]; simp
  have h2 : (List.replicate m [Value.int .i64 x] ++ List.replicate (n - m) [Value.int .i64 0]).drop (m + k) = List.replicate (n - (m + k)) [Value.int .i64 0] := by
    rw [List.drop_append, List.drop_of_length_le (by simp), List.nil_append, List.length_replicate, List.drop_replicate]; congr 1; omega
  rw [h1, h2, List.replicate_append_replicate]
theorem zvI : ∀ w, (zeroValue 3).run Try.prog w = .ok (.int .i64 0) w := fun _ => by kernel_rfl
theorem whole_rep (x y : Int) (m n : Nat) : Whole 1 (List.replicate m [Value.int .i64 x] ++ List.replicate n [Value.int .i64 y]) := fun cs hc => by
  rcases List.mem_append.1 hc with h | h <;> (rw [List.eq_of_mem_replicate h]; exact ⟨rfl, fun u hu => by simp at hu; subst hu; rfl⟩)
set_option maxHeartbeats 8000000 in
theorem o_repeat (x : Int) {n : Nat} (h0 : 1 ≤ n) (h8 : n ≤ 8) {g0 : Nat} {w : World} (hs : w.cell? ⟨g0, 0, none⟩ = some (.int .i64 x)) : Calls Try.prog 92 #[.slice (some ⟨g0, 0, none⟩) 1 1, .int .i64 n] w fun e w' => ∃ g, e = .returned (.slice (some ⟨g, 0, none⟩) n n) ∧ w.heap.size ≤ g ∧ Blk w' g 3 (List.replicate n [Value.int .i64 x]) ∧ Below w.heap.size w w' := by
  obtain ⟨w1, hmk, hbk, hb1, hs1⟩ := run_make_blk (P := Try.prog) w 43 IntP.elI zvI (size := 1) rfl n (by omega)
  have hlt0 := World.block_lt_of_cell? w _ hs
  have hsrc : ∀ j v, ([[Value.int .i64 x]] : List (List Value)).flatten[j]? = some v → w1.cell? ((⟨g0, 0, none⟩ : Addr).add j) = some v := fun j v hj => by
    match j, hj with
    | 0, hj => simp at hj; subst hj; exact (hb1.cell (p := ⟨g0, 0, none⟩) hlt0).trans hs
    | j + 1, hj => simp at hj
  obtain ⟨w2, hcp, hbk2, hg2, hz2⟩ := run_copy_blk (P := Try.prog) w1 43 43 3 IntP.elI 0 n n ⟨g0, 0, none⟩ 1 1 hbk (by have := whole_rep 0 0 0 n; simpa [Value.cells] using this) (ys := [[Value.int .i64 x]]) (by have := whole_rep x 0 1 0; simpa using this) (by show 1 = Nat.min 1 n; simp only [Nat.min_def]; split <;> omega) hsrc (by simp; omega)
  obtain ⟨g, hg⟩ : ∃ g, g = w.heap.size := ⟨_, rfl⟩
  rw [← hg] at hmk hbk hcp hbk2 hg2
  have K2 := Lib.hid (show Blk w2 g 3 (List.replicate 1 [Value.int .i64 x] ++ List.replicate (n - 1) [Value.int .i64 0]) by
    have e : (List.replicate n (Value.int .i64 0 : Value).cells.toList).take 0 ++ [[Value.int .i64 x]] ++ (List.replicate n (Value.int .i64 0 : Value).cells.toList).drop (0 + [[Value.int .i64 x]].length) = List.replicate 1 [Value.int .i64 x] ++ List.replicate (n - 1) [Value.int .i64 0] := by
      rw [List.drop_replicate]; simp [Value.cells]
    rw [← e]; exact hbk2)
  have B2 := Lib.hid (show Below w.heap.size w w2 from hb1.trans (grown_below hg2 (fun k e => by cases e; omega) (by rw [hs1]; omega)))
  have hgg := Lib.hid (show w.heap.size ≤ g from Nat.le_of_eq hg.symm)
  have hcm : ¬ ((n : Int) < 0) := by omega
  have hm8 := Lib.hid (o_mul h8 w)
  have cw : IntKind.u64.wrap (n : Int) = n := IntWalk.u64_in _ (by omega)
  have cw2 : IntKind.i64.wrap (n : Int) = n := IntWalk.i64_in _ (by omega)
  replace hg := Lib.hid hg
  replace hz2 := Lib.hid hz2
  replace hs1 := Lib.hid hs1
  clear hbk hbk2 hg2 hb1 hsrc
  simp only [Nat.zero_mul, List.length_cons, List.length_nil] at hcp
  go_enter Try.func92, Try.ntmps92
  go_wp2_with fail
  go_at_call 123
  (with_reducible refine hm8.out.mono ?_)
  rintro e wx ⟨rfl, rfl⟩
  go_wp2_with fail
  clear hmk hcp
  go_loopw [8] (fun v wr => ∃ m : Nat, 1 ≤ m ∧ m ≤ n ∧ v = .int .i64 m ∧ Blk wr g 3 (List.replicate m [Value.int .i64 x] ++ List.replicate (n - m) [Value.int .i64 0]) ∧ Below w.heap.size w wr) (fun v _ => n - (intOf v).toNat)
  case atStart => exact ⟨1, by omega, h0, rfl, K2.out, B2.out⟩
  case round =>
    clear K2 B2
    obtain ⟨m, hm1, hmn, rfl, hK, hb⟩ := hrel
    by_cases hml : m < n
    · have hmi : (m : Int) < (n : Int) := by omega
      obtain ⟨k, hk⟩ : ∃ k, min m (n - m) = k := ⟨_, rfl⟩
      have hwh := whole_rep x 0 m (n - m)
      replace hK : Blk wr.drew g 3 (List.replicate m [Value.int .i64 x] ++ List.replicate (n - m) [Value.int .i64 0]) := hK
      replace hb : Below w.heap.size w wr.drew := hb.drew
      have hnm : ¬ n = m := by omega
      have hnm2 : ¬ (m : Int) = (n : Int) := by omega
      have hnm3 : ¬ (n : Int) = (m : Int) := by omega
      have hyw : Whole 1 (List.replicate k [Value.int .i64 x]) := by have := whole_rep x 0 k 0; simpa using this
      have hsrc : ∀ j v, (List.replicate k [Value.int .i64 x]).flatten[j]? = some v → wr.drew.cell? ((⟨g, 0, none⟩ : Addr).add j) = some v := fun j v hj => by
        refine Sl.flat_at (hK.sl hwh) hwh (by decide) j v ?_
        rw [List.flatten_append]
        have hjl := (List.getElem?_eq_some_iff.1 hj).1
        have e1 : (List.replicate k [Value.int .i64 x]).flatten = List.replicate k (Value.int .i64 x) := by simp
        have e2 : (List.replicate m [Value.int .i64 x]).flatten = List.replicate m (Value.int .i64 x) := by simp
        rw [e1] at hj hjl
        rw [e2, List.getElem?_append_left (by simp at hjl ⊢; omega)]
        rw [List.getElem?_replicate] at hj ⊢
        simp at hjl
        rw [if_pos hjl] at hj
        rw [if_pos (by omega), hj]
      obtain ⟨w5, hcp, hbk5, hg5, hz5⟩ := run_copy_blk (P := Try.prog) wr.drew 43 43 3 IntP.elI m (n - m) (n - m) ⟨g, 0, none⟩ m n hK hwh hyw (by rw [List.length_replicate, ← hk]) hsrc (by rw [List.length_replicate, List.length_append, List.length_replicate, List.length_replicate]; omega)
      rw [List.length_replicate, rep_step x hk.symm hmn] at hbk5
      simp only [Nat.mul_one, List.length_replicate] at hcp
      have hsub : ((n - m : Nat) : Int) = (n : Int) - (m : Int) := by omega
      have hkz : 0 < k := by omega
      have hmk : (m : Int) + (k : Int) ≤ (n : Int) := by omega
      have hadd : IntKind.i64.wrap ((m : Int) + (k : Int)) = (m : Int) + (k : Int) := IntWalk.i64_in _ (by omega)
      have hadd2 : wrap64 ((m : Int) + (k : Int)) = (m : Int) + (k : Int) := IntWalk.wrap64_in _ (by omega)
      replace hk := Lib.hid hk
      have K5 := Lib.hid hbk5
      have B5 := Lib.hid (show Below w.heap.size w w5 from hb.trans (grown_below hg5 (fun k e => by cases e; exact hgg.out) hb.size))
      replace hsub := Lib.hid hsub
      clear hsrc hbk5 hg5 hz5 hK hb hwh hyw
      go_upto_region 9 with fail
      go_region
      go_wp2_with fail
      go_roundw
      case rel => exact ⟨m + k, by omega, by omega, by go_num, K5.out, B5.out⟩
      case measure => simp [intOf]; omega
    · obtain rfl : m = n := by omega
      have K9 := Lib.hid (show Blk wr g 3 (List.replicate m [Value.int .i64 x]) by rw [Nat.sub_self] at hK; simpa using hK)
      replace hb := Lib.hid hb
      clear hK
      go_wp2_with fail
      go_ret
      exact ⟨g, rfl, hgg.out, K9.out, hb.out⟩
/- Who is told of all segments with their steps, in a row. -/
def valT (T : List (Int × Int)) (s : Int) : Int := T.foldl (fun a x => if x.1 = s then x.2 else a) (-1)
def stT (n : Nat) (T : List (Int × Int)) : List Int := (List.range n).map fun s : Nat => valT T (s : Int)
theorem valT_snoc (T : List (Int × Int)) (x : Int × Int) (s : Int) : valT (T ++ [x]) s = if x.1 = s then x.2 else valT T s := by unfold valT; rw [List.foldl_append]; rfl
theorem stT_set (n : Nat) (T : List (Int × Int)) {k : Nat} (hk : k < n) (v : Int) : (stT n T).set k v = stT n (T ++ [((k : Int), v)]) := by
  apply List.ext_getElem?
  intro i
  unfold stT
  rw [List.getElem?_set, List.getElem?_map, List.getElem?_map, List.length_map, List.length_range]
  by_cases hi : k = i
  · subst hi
    rw [if_pos rfl, if_pos hk, List.getElem?_range hk]
    show some v = some (valT (T ++ [((k : Int), v)]) k)
    rw [valT_snoc, if_pos rfl]
  · rw [if_neg hi]
    by_cases hin : i < n
    · rw [List.getElem?_range hin]
      show some (valT T i) = some (valT (T ++ [((k : Int), v)]) i)
      rw [valT_snoc, if_neg (by simp; omega)]
    · rw [List.getElem?_eq_none (by simp; omega)]; rfl
theorem stT_len (n : Nat) (T : List (Int × Int)) : (stT n T).length = n := by unfold stT; simp
theorem stT_nil (n : Nat) : stT n [] = List.replicate n (-1) := by
  unfold stT valT
  apply List.ext_getElem?
  intro i
  rw [List.getElem?_map, List.getElem?_replicate]
  by_cases h : i < n
  · rw [List.getElem?_range h, if_pos h]; rfl
  · rw [List.getElem?_eq_none (by simp; omega), if_neg h]; rfl
theorem valT_map (d : Int → Int) (s : Int) : ∀ (Q : List Int) (a : Int), (Q.map fun x => (x, d x)).foldl (fun a x => if x.1 = s then x.2 else a) a = if s ∈ Q then d s else a
  | [], a => by simp
  | x :: Q, a => by
    rw [List.map_cons, List.foldl_cons, valT_map d s Q]
    by_cases h : s ∈ Q
    · rw [if_pos h, if_pos (List.mem_cons_of_mem _ h)]
    · rw [if_neg h]
      by_cases e : x = s
      · subst e; rw [if_pos rfl, if_pos (by simp)]
      · rw [if_neg e, if_neg (by intro hm; rcases List.mem_cons.1 hm with h2 | h2; exact e h2.symm; exact h h2)]
def stpR (l : L) (f : Int) : List Int := (List.range l.n).map fun s : Nat => l.dst f (s : Int)
theorem stT_dst {l : L} (hf : l.fit) {f : Int} (h0 : 0 ≤ f) (h1 : f < l.segs) {Q : List Int} (hQ : ∀ x, x ∈ Q ↔ (0 ≤ x ∧ x < l.segs ∧ 0 ≤ l.dst f x)) : stT l.n (Q.map fun x => (x, l.dst f x)) = stpR l f := by
  unfold stT stpR
  refine List.map_congr_left fun s hs => ?_
  have hs := List.mem_range.1 hs
  have hn : (l.n : Int) = l.segs := by have := hf.1; unfold L.n; omega
  show valT _ _ = _
  unfold valT
  rw [valT_map]
  by_cases h : (s : Int) ∈ Q
  · rw [if_pos h]
  · rw [if_neg h]
    have hd := (dst_is hf h0 h1).ge (s : Int) (by omega) (by omega)
    have : ¬ 0 ≤ l.dst f s := fun q => h ((hQ s).2 ⟨by omega, by omega, q⟩)
    omega
/-- stepsFrom's closure. -/
structure SI (n B r g : Nat) (T : List (Int × Int)) (σ : Nat → Prop) (W : World) : Prop where
  b : Bx W r 43 #[.slice (some ⟨g, 0, none⟩) n n]
  own : Own W B 3 1 (.slice (some ⟨g, 0, none⟩) n n) ((stT n T).map ic)
  σis : ∀ b, σ b ↔ b = r ∨ b = g
set_option maxHeartbeats 2000000 in
theorem s_call {n B r g : Nat} (hn : n ≤ 8) (hne : r ≠ g) {T : List (Int × Int)} {σ : Nat → Prop} {W : World} {x : Int × Int} (h0 : 0 ≤ x.1 ∧ x.1 < (n : Int)) (h : SI n B r g T σ W) :
    Calls Try.prog 93 #[.int .i64 x.1, .int .i64 x.2, .pointer (some ⟨r, 0, none⟩)] W fun e W' => e = .returned (.tuple #[]) ∧ ∃ σ', SI n B r g (T ++ [x]) σ' W' ∧ (∀ b, σ' b → σ b ∨ W.heap.size ≤ b) ∧ Stay σ W W' := by
  obtain ⟨x1, x2⟩ := x
  obtain ⟨k, rfl⟩ := nat_of h0.1 h0.2
  have hk : (k : Int) < (n : Int) := h0.2
  have hkn : k < n := by omega
  have H := Lib.hid h
  have b0 := h.b.c (i := 0) rfl
  have bz := h.b.lt
  obtain ⟨v, hv⟩ : ∃ v, (stT n T)[k]? = some v := ⟨_, List.getElem?_eq_getElem (by rw [stT_len]; exact hkn)⟩
  have c0 : W.cell? ⟨g, k, none⟩ = some (.int .i64 v) := by have := own_cell h.own (by decide) (j := k) (i := 0) (cs := ic v) (by rw [List.getElem?_map, hv]; rfl) rfl; simpa using this
  have c1 := (own_free h.own k).1
  have c2 := (own_free h.own k).2
  have hput := Lib.hid (own_put1 h.own (j := k) (by rw [List.length_map, stT_len]; exact hkn) (v := .int .i64 x2) rfl)
  have hset := Lib.hid (show ((stT n T).map ic).set k [.int .i64 x2] = (stT n (T ++ [((k : Int), x2)])).map ic by rw [← stT_set n T hkn x2, List.map_set])
  have hn8 : (n : Int) ≤ 8 := by omega
  replace hv := Lib.hid hv
  clear h h0
  go_enter Try.func93, Try.ntmps93
  go_wp2_with fail
  refine bodyPost_end (v := .tuple #[]) (by simp [results, Try.results93, go_sem]) rfl ⟨rfl, σ, ⟨H.out.b.other hne _ _, ?_, H.out.σis⟩, fun b h => .inl h, Stay.set ((H.out.σis g).2 (.inr rfl)) _ _ _⟩
  rw [← hset.out]; exact hput.out
theorem s_tel {n B r g : Nat} (hn : n ≤ 8) (hne : r ≠ g) : Tel Pr 93 #[.pointer (some ⟨r, 0, none⟩)] (fun x => 0 ≤ x.1 ∧ x.1 < (n : Int)) (fun _ => False) (SI n B r g) :=
  ⟨enters_of Try.func93 (by kernel_rfl) rfl, fun T σ W h b hb => by rcases (h.σis b).1 hb with rfl | rfl; exact h.b.lt; exact (own_free h.own 0).2,
    fun T σ W S W' h k hS => ⟨k.bx h.b (fun e => (hS _ e).1 ((h.σis _).2 (.inl rfl))), own_stay h.own k (fun b e q => (hS b q).1 ((h.σis b).2 (.inr (Option.some.inj e).symm))), h.σis⟩,
    fun T σ W x hx _ h => s_call hn hne hx h⟩
set_option maxHeartbeats 8000000 in
theorem o_stepsfrom {l : L} {A : Option Addr} {c : Nat} {B : Option Addr} {d : Nat} {w : World} (hr : LanR w l A c B d) (hs : Small l) (ho : l.ok = true) {f : Int} (hf0 : 0 ≤ f) (hf1 : f < l.segs) :
    Calls Try.prog 56 #[lv l A c B d, .int .i64 f] w (Ret ic 3 1 w (stpR l f)) := by
  have hR := Lib.hid hr
  have hF := ok_fit ho
  have hsg := ok_segs ho
  have hn8 : l.n ≤ 8 := ok_small8 ho
  have hn1 : 1 ≤ l.n := by omega
  obtain ⟨n, hn⟩ : ∃ n, l.n = n := ⟨_, rfl⟩
  have hln : l.segs = (n : Int) := by rw [← hn]; exact hsg.2.2.symm
  have hst := Lib.hid (fun Q hQ => stT_dst (l := l) hF hf0 hf1 (Q := Q) hQ)
  have hwalk := Lib.hid (fun (I : List (Int × Int) → (Nat → Prop) → World → Prop) (g : Nat) (caps : Array Value) (W : World) (σ : Nat → Prop) t hr hI => o_walk (A := A) (c := c) (B := B) (d := d) (w := W) (I := I) (g := g) (caps := caps) (σ := σ) t hr hs ho hf0 hf1 hI)
  rw [hn] at hst
  obtain ⟨w0, hw0, X0, R0, B0⟩ := new3 w hr
  obtain ⟨n1, hn1'⟩ : ∃ n1, n1 = w.heap.size + 1 := ⟨_, rfl⟩
  have hz0 : w0.heap.size = w.heap.size + 1 := by rw [hw0]; simp
  obtain ⟨w1, hw1⟩ : ∃ W, W = w0.alloc (.cells #[.int .i64 (-1)] 3) := ⟨_, rfl⟩
  have b1 : Below w0.heap.size w0 w1 := by rw [hw1]; exact (Below.refl _ _).alloc (Nat.le_refl _) _
  have X1 := Lib.hid (X0.below b1)
  have B1 := Lib.hid (bt B0 b1)
  have hrep := Lib.hid (o_repeat (-1) (n := n) (by omega) (by omega) (g0 := n1) (w := w1) (by rw [hw1, hn1', ← hz0]; exact (Bx.new w0 #[.int .i64 (-1)] 3 rfl).c (i := 0) rfl))
  have x0 : w0.cell? ⟨w.heap.size, 0, none⟩ = some (.int .i64 (n : Int)) := by rw [← hln]; exact X0.c (i := 0) rfl
  have zz := X0.lt
  replace hsg := Lib.hid hsg
  replace hz0 := Lib.hid hz0
  replace hln := Lib.hid hln
  clear hr X0 R0 B0 b1
  go_enter Try.func56, Try.ntmps56
  go_upto_region 1 with fail
  go_wp2_with fail
  rw [hln.out, ← hn1', ← hw0, ← hw1]
  go_at_call 92
  (with_reducible refine hrep.out.mono ?_)
  rintro e w2 ⟨g, rfl, hg, hk2, hb2⟩
  obtain ⟨w3, hw3⟩ : ∃ W, W = w2.alloc (.cells #[.slice (some ⟨g, 0, none⟩) n n] 43) := ⟨_, rfl⟩
  obtain ⟨r, hrr⟩ : ∃ r, r = w2.heap.size := ⟨_, rfl⟩
  have b3 : Below w2.heap.size w2 w3 := by rw [hw3]; exact (Below.refl _ _).alloc (Nat.le_refl _) _
  have hgl := hk2.lt
  have hwg := Nat.le_trans B1.out.size hg
  have hrw : w.heap.size < r := by omega
  have S3 := Lib.hid (show SI n w.heap.size r g [] (fun b => b = r ∨ b = g) w3 from
    ⟨by rw [hw3]; exact Bx.new _ _ _ hrr.symm, by
      have := (Blk.own hk2 (by have := whole_rep (-1) 0 n 0; simpa using this) (B := w.heap.size) (n := n) hwg (by simp) (by simp; unfold maxLen; omega)).below b3
      rw [stT_nil]
      simpa using this, fun b => Iff.rfl⟩)
  have X3 := Lib.hid ((X1.out.below hb2).below b3)
  have B3 := Lib.hid (bt (bt B1.out hb2) b3)
  have L3 := Lib.hid (fun W (hW : Stay (fun b => b = r ∨ b = g) w3 W) => hR.out.below (B3.out.trans (hW.below (fun b hb => by rcases hb with rfl | rfl; exact Nat.le_of_lt hrw; exact hwg) B3.out.size)))
  have hcl := Lib.hid (hwalk.out (SI n w.heap.size r g) 93 #[.pointer (some ⟨r, 0, none⟩)] w3 (fun b => b = r ∨ b = g) (by rw [hln.out]; exact s_tel (by have := hn8; omega) (by omega)) L3.out S3.out)
  have hgw := Lib.hid hwg
  have hrw2 := Lib.hid hrw
  clear hw0 hw1 hn1' x0 zz hk2 hb2 b3 hgl hg hwg hrw hrep X1 B1
  go_upto_region 2 with fail
  rw [← hw3, ← hrr]
  clear hw3 hrr
  have x0 := X3.out.c (i := 0) rfl
  have x1 := X3.out.c (i := 1) rfl
  have x2 := X3.out.c (i := 2) rfl
  have zz := X3.out.lt
  go_wp2_with fail
  go_at_call 52
  (with_reducible refine hcl.out.mono ?_)
  rintro e w4 ⟨rfl, Q, σ', hI, hnd, hQ, hσ', hst4⟩
  have ho4 := hI.own
  rw [hst.out Q hQ] at ho4
  have y0 := hI.b.c (i := 0) rfl
  have yz := hI.b.lt
  have O4 := Lib.hid ho4
  have B4 := Lib.hid (show Below w.heap.size w w4 from B3.out.trans (hst4.below (fun b hb => by rcases hb with rfl | rfl; exact Nat.le_of_lt hrw2.out; exact hgw.out) B3.out.size))
  have hlen := Lib.hid (show (stpR l f).length = n by unfold stpR; rw [List.length_map, List.length_range]; exact hn)
  clear hI hQ hnd hσ' hst4 ho4 x0 x1 x2 zz
  replace hn := Lib.hid hn
  go_wp2_with fail
  go_ret
  exact ⟨some ⟨g, 0, none⟩, n, by rw [hlen.out]; rfl, by rw [hlen.out]; exact O4.out, B4.out⟩
end Go.Proofs.Ytgcmklliafcffaa.LanP
