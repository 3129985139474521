/-
  FdbForgets whole.
-/
import Derived.Test.YtnghilcjecjljaaFdbX
import Derived.Test.YtnghilcjecjljaaFdbY
import Derived.Deep.CutRange
import Derived.Deep.CutBlock
namespace Go.Proofs.Ytnghilcjecjljaa.FdbP
open Go.RowKit Go.Sort Go.Proofs.Ytnghilcjecjljaa.SliceP Go.Proofs.Ytnghilcjecjljaa.MacP
set_option linter.unusedVariables false
set_option maxRecDepth 100000

/-- A row of threes that comes in: cells. -/
structure Row3 (w : World) (A : Option Addr) (n c : Nat) : Prop where
  cap : n ≤ c
  big : c ≤ 9223372036854775807
  at_ : ∀ k, k < n → ∃ b o x y z, A = some ⟨b, o, none⟩ ∧ b < w.heap.size ∧ w.cell? ⟨b, o + k * 3, none⟩ = some (.int .i64 x) ∧ w.cell? ⟨b, o + k * 3 + 1, none⟩ = some (.int .i64 y) ∧ w.cell? ⟨b, o + k * 3 + 2, none⟩ = some (.int .i64 z)
theorem num_pow {x : Int} (h0 : 0 ≤ x) (h1 : x < 5) : numB (wrap64 (2 ^ x.toNat)) = true := by
  have h : ∀ k : Nat, k < 5 → numB (wrap64 (2 ^ k)) = true := by decide +kernel
  exact h x.toNat (by omega)
theorem Inv.start {n s ag : Int} (h : sizesB n s ag = true) : Inv s ag (List.replicate n.toNat []) (fun _ => 0) (fun _ => 0) (fun _ => 0) [] := by
  have hn := numB_cases (sizesB_num h)
  have hs : 1 ≤ s := by unfold sizesB at h; simp only [Bool.and_eq_true, decide_eq_true_eq] at h; exact h.2.1
  have hr : rightT (List.replicate n.toNat []) s ag = true := by
    rw [right_iff]
    refine ⟨by rw [List.length_replicate, Int.toNat_of_nonneg (by omega)]; exact h, fun k l hk => ?_⟩
    rw [List.getElem?_replicate] at hk
    split at hk
    · obtain rfl := Option.some.inj hk
      exact ⟨by simp; omega, by simp, fun x hx => by cases hx⟩
    · cases hk
  refine ⟨hr, fun x => ?_, fun x hx => absurd rfl hx⟩
  obtain ⟨k, _, h2, h3⟩ := right_buck hr x
  rw [List.getElem?_replicate] at h3
  split at h3
  · have e := Option.some.inj h3
    unfold entO
    rw [← e]; rfl
  · cases h3

/-- The blocks of a walk: the table's box, three maps, all apart, all new. -/
structure Pl (w : World) (p m1 m2 m3 : Nat) : Prop where
  p0 : w.heap.size ≤ p
  g1 : w.heap.size ≤ m1
  g2 : w.heap.size ≤ m2
  g3 : w.heap.size ≤ m3
  a1 : m1 ≠ p
  a2 : m2 ≠ p
  a3 : m3 ≠ p
  d12 : m1 ≠ m2
  d13 : m1 ≠ m3
  d23 : m2 ≠ m3
def Box (w : World) (p : Nat) (s ag : Int) (w' : World) (bs : List (List E)) : Prop := ∃ A n c, Bx w' p TT #[.slice A n c, .int .i64 s, .int .i64 ag] ∧ TabH w.heap.size w' A n c bs
structure Ms (w : World) (m1 m2 m3 : Nat) (w' : World) (fs fa fp : Int → Int) (ks : List Int) (N : Nat) : Prop where
  bel : Below w.heap.size w w'
  seen : ∃ l, MapP.MapF w' m1 N fs l
  at_ : ∃ l, MapP.MapF w' m2 N fa l
  pin : MapP.MapF w' m3 N fp ks
theorem Box.below {w w' w2 : World} {p : Nat} {s ag : Int} {bs : List (List E)} (h : Box w p s ag w' bs) (hb : Below w'.heap.size w' w2) : Box w p s ag w2 bs := by
  obtain ⟨A, n, c, h1, h2⟩ := h
  exact ⟨A, n, c, h1.below hb, h2.below hb⟩
theorem Ms.below {w w' w2 : World} {m1 m2 m3 : Nat} {fs fa fp : Int → Int} {ks : List Int} {N : Nat} (h : Ms w m1 m2 m3 w' fs fa fp ks N) (hb : Below w'.heap.size w' w2) : Ms w m1 m2 m3 w2 fs fa fp ks N := by
  obtain ⟨h0, ⟨l1, h1⟩, ⟨l2, h2⟩, h3⟩ := h
  exact ⟨h0.trans (hb.mono h0.size), ⟨l1, h1.below hb⟩, ⟨l2, h2.below hb⟩, h3.below hb⟩
theorem Ms.mono {w w' : World} {m1 m2 m3 : Nat} {fs fa fp : Int → Int} {ks : List Int} {N N' : Nat} (h : Ms w m1 m2 m3 w' fs fa fp ks N) (hn : N ≤ N') : Ms w m1 m2 m3 w' fs fa fp ks N' := by
  obtain ⟨h0, ⟨l1, h1⟩, ⟨l2, h2⟩, h3⟩ := h
  exact ⟨h0, ⟨l1, h1.mono hn⟩, ⟨l2, h2.mono hn⟩, h3.mono hn⟩
/-- A box of a table is written. -/
theorem Ms.three {w w' : World} {m1 m2 m3 q : Nat} {fs fa fp : Int → Int} {ks : List Int} {N : Nat} (h : Ms w m1 m2 m3 w' fs fa fp ks N) (hq : w.heap.size ≤ q) (h1 : m1 ≠ q) (h2 : m2 ≠ q) (h3 : m3 ≠ q) (v0 v1 v2 : Value) : Ms w m1 m2 m3 (((w'.setCell ⟨q, 0, none⟩ v0).setCell ⟨q, 1, none⟩ v1).setCell ⟨q, 2, none⟩ v2) fs fa fp ks N := by
  obtain ⟨h0, ⟨l1, k1⟩, ⟨l2, k2⟩, k3⟩ := h
  exact ⟨below3 h0 hq _ _ _, ⟨l1, ((k1.setCell h1 _ _).setCell h1 _ _).setCell h1 _ _⟩, ⟨l2, ((k2.setCell h2 _ _).setCell h2 _ _).setCell h2 _ _⟩, ((k3.setCell h3 _ _).setCell h3 _ _).setCell h3 _ _⟩
/-- Behind the switch: what was done is in u's box, or nothing was, and the number says so. -/
def After (w : World) (p u : Nat) (s ag : Int) (w' : World) (bs : List (List E)) (er : Int) : Prop :=
  (er = 0 ∧ (∃ v, Bx w' p TT #[v, .int .i64 s, .int .i64 ag]) ∧ Box w u s ag w' bs) ∨ ((er = 4 ∨ er = 5) ∧ Box w p s ag w' bs ∧ ∃ v0 v1 v2, Bx w' u TT #[v0, v1, v2])
theorem After.below {w w' w2 : World} {p u : Nat} {s ag er : Int} {bs : List (List E)} (h : After w p u s ag w' bs er) (hb : Below w'.heap.size w' w2) : After w p u s ag w2 bs er := by
  rcases h with ⟨h1, ⟨v, h2⟩, h3⟩ | ⟨h1, h2, v0, v1, v2, h3⟩
  · exact .inl ⟨h1, ⟨v, h2.below hb⟩, h3.below hb⟩
  · exact .inr ⟨h1, h2.below hb, v0, v1, v2, h3.below hb⟩

section
variable {w w' w2 : World} {p u m1 m2 m3 : Nat} {s ag er : Int} {A A' : Option Addr} {n n' c c' : Nat} {bs bs' : List (List E)} {v0 v1 v2 : Value}
theorem Bx.three_other {T : TypeId} {vals : Array Value} {q : Nat} (h : Bx w' p T vals) (hq : p ≠ q) (v0 v1 v2 : Value) : Bx (((w'.setCell ⟨q, 0, none⟩ v0).setCell ⟨q, 1, none⟩ v1).setCell ⟨q, 2, none⟩ v2) p T vals := ((h.other hq _ _).other hq _ _).other hq _ _
theorem after_ok (X : Bx w' p TT #[.slice A n c, .int .i64 s, .int .i64 ag]) (U : Bx w' u TT #[v0, v1, v2]) (T : TabH w.heap.size w' A' n' c' bs') (hup : p ≠ u) : After w p u s ag (((w'.setCell ⟨u, 0, none⟩ (.slice A' n' c')).setCell ⟨u, 1, none⟩ (.int .i64 s)).setCell ⟨u, 2, none⟩ (.int .i64 ag)) bs' 0 :=
  .inl ⟨rfl, ⟨_, Bx.three_other X hup _ _ _⟩, A', n', c', U.three, T.hi (Hi.box3 U _ _ _)⟩
theorem after_no (X : Bx w' p TT #[.slice A n c, .int .i64 s, .int .i64 ag]) (U : Bx w' u TT #[v0, v1, v2]) (T : TabH w.heap.size w' A n c bs) (hup : p ≠ u) (he : er = 4 ∨ er = 5) (u0 u1 u2 : Value) : After w p u s ag (((w'.setCell ⟨u, 0, none⟩ u0).setCell ⟨u, 1, none⟩ u1).setCell ⟨u, 2, none⟩ u2) bs er :=
  .inr ⟨he, ⟨A, n, c, Bx.three_other X hup _ _ _, T.hi (Hi.box3 U _ _ _)⟩, _, _, _, U.three⟩
theorem After.map {b : Nat} (h : After w p u s ag w' bs er) (hg : w'.grownBy w2 (some b)) (hb : ∃ es clock, w'.heap[b]? = some (.map es clock)) : After w p u s ag w2 bs er := by
  have hB : ∀ {q : Nat}, Box w q s ag w' bs → Box w q s ag w2 bs := fun ⟨A, n, c, h1, h2⟩ => ⟨A, n, c, h1.grown' hg hb, h2.hi (Hi.grown hg hb)⟩
  rcases h with ⟨h1, ⟨v, h2⟩, h3⟩ | ⟨h1, h2, v0, v1, v2, h3⟩
  · exact .inl ⟨h1, ⟨v, h2.grown' hg hb⟩, hB h3⟩
  · exact .inr ⟨h1, hB h2, v0, v1, v2, h3.grown' hg hb⟩
variable {fs fa fp f' : Int → Int} {ks l' : List Int} {N N' : Nat}
theorem Ms.storePin (h : Ms w m1 m2 m3 w' fs fa fp ks N) (hg : w'.grownBy w2 (some m3)) (h3 : MapP.MapF w2 m3 N' f' l') (PL : Pl w p m1 m2 m3) (hN : N ≤ N') : Ms w m1 m2 m3 w2 fs fa f' l' N' := by
  obtain ⟨h0, ⟨l1, k1⟩, ⟨l2, k2⟩, k3⟩ := h
  exact ⟨h0.grown hg h0.size (fun j hj => by cases hj; exact PL.g3), ⟨l1, (k1.kept hg (by simpa using PL.d13)).mono hN⟩, ⟨l2, (k2.kept hg (by simpa using PL.d23)).mono hN⟩, h3⟩
theorem Ms.storeSeen (h : Ms w m1 m2 m3 w' fs fa fp ks N) (hg : w'.grownBy w2 (some m1)) (h3 : MapP.MapF w2 m1 N' f' l') (PL : Pl w p m1 m2 m3) (hN : N ≤ N') : Ms w m1 m2 m3 w2 f' fa fp ks N' := by
  obtain ⟨h0, ⟨l1, k1⟩, ⟨l2, k2⟩, k3⟩ := h
  exact ⟨h0.grown hg h0.size (fun j hj => by cases hj; exact PL.g1), ⟨_, h3⟩, ⟨l2, (k2.kept hg (by simpa using PL.d12.symm)).mono hN⟩, (k3.kept hg (by simpa using PL.d13.symm)).mono hN⟩
theorem Ms.storeAt (h : Ms w m1 m2 m3 w' fs fa fp ks N) (hg : w'.grownBy w2 (some m2)) (h3 : MapP.MapF w2 m2 N' f' l') (PL : Pl w p m1 m2 m3) (hN : N ≤ N') : Ms w m1 m2 m3 w2 fs f' fp ks N' := by
  obtain ⟨h0, ⟨l1, k1⟩, ⟨l2, k2⟩, k3⟩ := h
  exact ⟨h0.grown hg h0.size (fun j hj => by cases hj; exact PL.g2), ⟨l1, (k1.kept hg (by simpa using PL.d12)).mono hN⟩, ⟨_, h3⟩, (k3.kept hg (by simpa using PL.d23.symm)).mono hN⟩
variable {a port now : Int}
theorem pin_ok (ht : TabS w A n c bs) (h : rightT bs s ag = true) (hm : macB a = true) (hp : portB port = true) (hb : pinO bs s a port = some bs') : Calls Try.prog 23 #[tbv (.slice A n c) s ag, .int .i64 a, .int .i64 port] w (RetTab w bs' s ag 0) := by
  have := fdPin s ag a port ht (right_small h) true (by unfold pinOk; rw [h, hm, hp]; rfl)
  rw [hb] at this
  exact this
theorem pin_full (ht : TabS w A n c bs) (h : rightT bs s ag = true) (hm : macB a = true) (hp : portB port = true) (hb : pinO bs s a port = none) : Calls Try.prog 23 #[tbv (.slice A n c) s ag, .int .i64 a, .int .i64 port] w (RetTab w [] 0 0 5) := by
  have := fdPin s ag a port ht (right_small h) true (by unfold pinOk; rw [h, hm, hp]; rfl)
  rw [hb] at this
  exact this
theorem unpin_ok (ht : TabS w A n c bs) (h : rightT bs s ag = true) (hm : macB a = true) (hb : unpinO bs a = some bs') : Calls Try.prog 24 #[tbv (.slice A n c) s ag, .int .i64 a] w (RetTab w bs' s ag 0) := by
  have := fdUnpin s ag a ht (right_small h) true (by unfold unpinOk; rw [h, hm]; rfl)
  rw [hb] at this
  exact this
end

set_option maxHeartbeats 16000000 in
theorem forgets_law (n0 s0 g0 : Int) (A0 : Option Addr) (r0 c0 : Nat) {w : World} (hR0 : Row3 w A0 r0 c0) :
    Calls Try.prog 5 #[.int .i64 n0, .int .i64 s0, .int .i64 g0, .slice A0 r0 c0] w (IntP.True1 w) := by
  have hmm := @run_makeMap Try.prog
  have hcap := hR0.cap
  have hbig := hR0.big
  have hR := Lib.hid hR0
  clear hR0
  obtain ⟨n1, n2⟩ := modw_bd n0 5 (by omega) (by omega)
  obtain ⟨s1, s2⟩ := modw_bd s0 4 (by omega) (by omega)
  obtain ⟨g1, g2⟩ := modw_bd g0 50 (by omega) (by omega)
  obtain ⟨nx, hnx⟩ : ∃ x, (wrap64 (n0.tmod 5 + 5)).tmod 5 = x := ⟨_, rfl⟩
  obtain ⟨sx, hsx⟩ : ∃ x, (wrap64 (s0.tmod 4 + 4)).tmod 4 = x := ⟨_, rfl⟩
  obtain ⟨gx, hgx⟩ : ∃ x, (wrap64 (g0.tmod 50 + 50)).tmod 50 = x := ⟨_, rfl⟩
  rw [hnx] at n1 n2
  rw [hsx] at s1 s2
  rw [hgx] at g1 g2
  have hnum := num_pow n1 n2
  obtain ⟨nb, hnb⟩ : ∃ x, wrap64 (2 ^ nx.toNat) = x := ⟨_, rfl⟩
  rw [hnb] at hnum
  obtain ⟨s, hsw⟩ : ∃ x, 1 + sx = x := ⟨_, rfl⟩
  obtain ⟨ag, hgw⟩ : ∃ x, 1 + gx = x := ⟨_, rfl⟩
  have hs : 1 ≤ s ∧ s ≤ 4 := by omega
  have hg : 1 ≤ ag ∧ ag ≤ 50 := by omega
  obtain ⟨hs1, hs2⟩ := hs
  obtain ⟨hg1, hg2⟩ := hg
  have hsz : sizesB nb s ag = true := by unfold sizesB; simp only [Bool.and_eq_true, decide_eq_true_eq]; exact ⟨hnum, by omega, by omega, by omega, by omega⟩
  have hI := Lib.hid (Inv.start hsz)
  replace hsz := Lib.hid hsz
  obtain ⟨m, hm⟩ : ∃ m : Nat, m = min r0 80 := ⟨_, rfl⟩
  have hm1 : (min (r0 : Int) 80).toNat = m := by omega
  have hm2 : max (min (r0 : Int) 80) 0 = (m : Int) := by omega
  have hm3 : m ≤ 80 := by omega
  have hm4 : m ≤ r0 := by omega
  replace hm := Lib.hid hm
  go_enter Try.func5, Try.ntmps5
  go_wp2_with fail
  go_at_call 9
  (with_reducible refine (new_yes hsz.out).mono ?_)
  rintro e w1 ⟨A1, n1', c1, rfl, T1, hb1⟩
  have hsz1 := hb1.size
  go_wp2_with fail
  obtain ⟨W, hW⟩ : ∃ W, W = (((w1.alloc (.cells #[.slice A1 n1' c1, .int .i64 s, .int .i64 ag] 24)).alloc (.map #[] 0)).alloc (.map #[] 0)).alloc (.map #[] 0) := ⟨_, rfl⟩
  have BB : Below w1.heap.size w1 W := by rw [hW]; exact ((((Below.refl _ _).alloc (Nat.le_refl _) _).alloc (by simp) _).alloc (by simp; omega) _).alloc (by simp; omega) _
  have PL : Pl w w1.heap.size (w1.heap.size + 1) (w1.heap.size + 1 + 1) (w1.heap.size + 1 + 1 + 1) := ⟨hsz1, by omega, by omega, by omega, by omega, by omega, by omega, by omega, by omega, by omega⟩
  have XW : Box w w1.heap.size s ag W (List.replicate nb.toNat []) := ⟨A1, n1', c1, by rw [hW]; exact (((Bx.new w1 _ _ rfl).alloc _).alloc _).alloc _, T1.below BB⟩
  have MW : Ms w (w1.heap.size + 1) (w1.heap.size + 1 + 1) (w1.heap.size + 1 + 1 + 1) W (fun _ => 0) (fun _ => 0) (fun _ => 0) [] 0 := by
    refine ⟨bt hb1 BB, ⟨[], ?_⟩, ⟨[], ?_⟩, ?_⟩
    · rw [hW]; exact ((MapP.MapF.made _ (by simp)).alloc _).alloc _
    · rw [hW]; exact (MapP.MapF.made _ (by simp)).alloc _
    · rw [hW]; exact MapP.MapF.made _ (by simp)
  rw [← hW]
  clear hW BB T1 hb1 hmm hnx hsx hgx hnb hsw hgw hsz1 hsz
  generalize w1.heap.size + 1 + 1 + 1 = m3 at *
  generalize w1.heap.size + 1 + 1 = m2 at *
  generalize w1.heap.size + 1 = m1 at *
  generalize w1.heap.size = p at *
  replace PL := Lib.hid PL
  replace XW := Lib.hid XW
  replace MW := Lib.hid MW
  go_loopw [14, 59] (fun v14 i wr => ∃ (k : Nat) (now : Int) (bs : List (List E)) (fs fa fp : Int → Int) (ks : List Int), k ≤ m ∧ i = .int .i64 k ∧ v14 = .int .i64 now ∧ 0 ≤ now ∧ now ≤ 10 * k ∧ Box w p s ag wr bs ∧ Ms w m1 m2 m3 wr fs fa fp ks (2 * k) ∧ Inv s ag bs fs fa fp ks) (fun _ i _ => m - (intOf i).toNat)
  case atStart => exact ⟨0, 0, _, _, _, _, [], by omega, rfl, rfl, by omega, by omega, XW.out, MW.out, hI.out⟩
  case round =>
    clear XW MW hI
    obtain ⟨k, now, bs, fs, fa, fp, ks, hk, rfl, rfl, hn0, hn1, ⟨A, n', c', X, T⟩, M, I⟩ := hrel
    have hpl := X.lt
    have hm1l := M.seen.choose_spec.lt
    have hm2l := M.at_.choose_spec.lt
    have hm3l := M.pin.lt
    replace X := Lib.hid X
    replace T := Lib.hid T
    replace M := Lib.hid M
    replace I := Lib.hid I
    by_cases hkm : k < m
    · obtain ⟨b0, o0, x0, x1, x2, rfl, hbw, q0, q1, q2⟩ := hR.out.at_ k (by omega)
      have hbel := M.out.bel
      replace q0 := (hbel.cell (p := ⟨b0, _, none⟩) hbw).trans q0
      replace q1 := (hbel.cell (p := ⟨b0, _, none⟩) hbw).trans q1
      replace q2 := (hbel.cell (p := ⟨b0, _, none⟩) hbw).trans q2
      have hbw2 : b0 < wr.heap.size := Nat.lt_of_lt_of_le hbw hbel.size
      clear hbel
      obtain ⟨y1, y2⟩ := modw_bd x1 12 (by omega) (by omega)
      obtain ⟨ax, hax⟩ : ∃ x, (wrap64 (x1.tmod 12 + 12)).tmod 12 = x := ⟨_, rfl⟩
      rw [hax] at y1 y2
      obtain ⟨a, ha⟩ : ∃ x, 2 * ax = x := ⟨_, rfl⟩
      have hma : macB a = true := by rw [← ha]; exact macB_two y1 y2
      have ha0 : 0 ≤ a ∧ a < 24 := by omega
      obtain ⟨ha1, ha2⟩ := ha0
      have haw : wrap64 a = a := IntWalk.wrap64_in _ (by omega)
      have hawf : (Lit.int .i64 a).wf = true := WalkArith.wf_i64 (by omega)
      obtain ⟨z1, z2⟩ := modw_bd x2 8 (by omega) (by omega)
      obtain ⟨port, hport⟩ : ∃ x, (wrap64 (x2.tmod 8 + 8)).tmod 8 = x := ⟨_, rfl⟩
      rw [hport] at z1 z2
      obtain ⟨op, hop⟩ : ∃ x, (wrap64 (x0.tmod 8 + 8)).tmod 8 = x := ⟨_, rfl⟩
      have hpt := portB_iff.2 ⟨z1, z2⟩
      replace hma := Lib.hid hma
      replace hpt := Lib.hid hpt
      go_wp2_with fail
      obtain ⟨W, hW⟩ : ∃ W, W = wr.alloc (.cells #[.int .i64 x0, .int .i64 x1, .int .i64 x2] 50) := ⟨_, rfl⟩
      have bW : Below wr.heap.size wr W := by rw [hW]; exact (Below.refl _ _).alloc (Nat.le_refl _) _
      have Z : Bx W wr.heap.size 50 #[.int .i64 x0, .int .i64 x1, .int .i64 x2] := by rw [hW]; exact Bx.new _ _ _ rfl
      rw [← hW]
      have K0 := cell_regrown (Z.c (i := 0) rfl)
      have K1 := cell_regrown (Z.c (i := 1) rfl)
      have K2 := cell_regrown (Z.c (i := 2) rfl)
      clear hW q0 q1 q2 hbw2 hbw
      replace Z := Lib.hid Z
      refine wp_region_quiet_below (by kernel_rfl) (by kernel_rfl) ?_
      repeat (first | go_big_quiet_step (fail) | quiet_step (fail))
      refine wpQuiet_nil ?_
      intro _ hw'
      obtain ⟨⟨dq, osq⟩, hw''⟩ := hw'
      subst hw''
      have bq := below_regrown W dq osq
      clear K0 K1 K2
      generalize Go.Sort.grow (redrawn W dq) osq = W1 at *
      have Z1 := Z.out.below bq
      have bW1 := bt bW bq
      have z0 := Z1.c (i := 0) rfl
      have hzl := Z1.lt
      have X1 := Lib.hid (X.out.below bW1)
      have T1 := Lib.hid (T.out.below bW1)
      have M1 := Lib.hid (M.out.below bW1)
      clear bq bW Z X T M hpl hm1l hm2l hm3l
      go_upto_block 2 with fail
      obtain ⟨W2, hW2⟩ : ∃ W, W = W1.alloc (.cells #[.slice none 0 0, .int .i64 0, .int .i64 0] 24) := ⟨_, rfl⟩
      have b2 : Below W1.heap.size W1 W2 := by rw [hW2]; exact (Below.refl _ _).alloc (Nat.le_refl _) _
      have U := Lib.hid (show Bx W2 W1.heap.size TT #[.slice none 0 0, .int .i64 0, .int .i64 0] by rw [hW2]; exact Bx.new _ _ _ rfl)
      have hup : p ≠ W1.heap.size := Nat.ne_of_lt X1.out.lt
      have hu1 : m1 ≠ W1.heap.size := Nat.ne_of_lt M1.out.seen.choose_spec.lt
      have hu2 : m2 ≠ W1.heap.size := Nat.ne_of_lt M1.out.at_.choose_spec.lt
      have hu3 : m3 ≠ W1.heap.size := Nat.ne_of_lt M1.out.pin.lt
      have hu9 : w.heap.size ≤ W1.heap.size := M1.out.bel.size
      rw [← hW2]
      have X2 := Lib.hid (X1.out.below b2)
      have T2 := Lib.hid (T1.out.below b2)
      have M2 := Lib.hid (M1.out.below b2)
      have hul := U.out.lt
      have hpl := X2.out.lt
      have hs9 := Lib.hid M2.out.bel.size
      clear hW2 b2 X1 T1 M1 Z1 z0 hzl bW1
      generalize W1.heap.size = u at *
      replace hup := Lib.hid hup
      replace hu1 := Lib.hid hu1
      replace hu2 := Lib.hid hu2
      replace hu3 := Lib.hid hu3
      replace hu9 := Lib.hid hu9
      go_cut [14, 20] from 79 to 176 (fun v14 v20 wx => ∃ (now' : Int) (bs' : List (List E)) (fs' fa' fp' : Int → Int) (ks' : List Int) (er : Int), v14 = .int .i64 now' ∧ v20 = .int .i64 er ∧ 0 ≤ now' ∧ now' ≤ 10 * ((k : Int) + 1) ∧ After w p u s ag wx bs' er ∧ Ms w m1 m2 m3 wx fs' fa' fp' ks' (2 * k + 2) ∧ Inv s ag bs' fs' fa' fp' ks')
      case first =>
        have x0 := X2.out.c (i := 0) rfl
        have x1 := X2.out.c (i := 1) rfl
        have x2 := X2.out.c (i := 2) rfl
        have hr := Lib.hid I.out.right
        have hk9 : k ≤ 80 := by omega
        have hz9 : (Lit.int .i64 0).wf = true := by decide
        have hnwf : (Lit.int .i64 now).wf = true := WalkArith.wf_i64 (by omega)
        obtain ⟨pt1, hp1⟩ : ∃ x, port + 1 = x := ⟨_, rfl⟩
        have hp2 : wrap64 pt1 = pt1 := IntWalk.wrap64_in _ (by omega)
        have hp3 : (Lit.int .i64 pt1).wf = true := WalkArith.wf_i64 (by omega)
        by_cases h0 : op = 0
        · have h0' : (op == 0) = true := by simpa using h0
          obtain ⟨now2, hnow2⟩ : ∃ x, now + port = x := ⟨_, rfl⟩
          have hb2 : 0 ≤ now2 ∧ now2 ≤ 10 * (k : Int) + 7 := by omega
          obtain ⟨hb3, hb4⟩ := hb2
          have hw2 : wrap64 now2 = now2 := IntWalk.wrap64_in _ (by omega)
          have ht2 := Lib.hid (timeB_iff.2 (show 0 ≤ now2 ∧ now2 ≤ 1099511627776 by omega))
          replace h0 := Lib.hid h0
          go_wp2_with fail
          go_at_call 25
          (with_reducible refine (sweep_yes T2.out.tab hr.out ht2.out).mono ?_)
          rintro e w4 ⟨A4, n4, c4, rfl, T4, hb5⟩
          have T4' := Lib.hid (T4.base hs9.out)
          have T9 := Lib.hid (T2.out.below hb5)
          have X4 := Lib.hid (X2.out.below hb5)
          have U4 := Lib.hid (U.out.below hb5)
          have M4 := Lib.hid (M2.out.below hb5)
          have M5 := Lib.hid fun (v0 v1 v2 : Value) => M4.out.three hu9.out hu1.out hu2.out hu3.out v0 v1 v2
          have d0 := U4.out.c (i := 0) rfl
          have d1 := U4.out.c (i := 1) rfl
          have d2 := U4.out.c (i := 2) rfl
          have f0 := U4.out.f 0
          have f1 := U4.out.f 1
          have f2 := U4.out.f 2
          have hul4 := U4.out.lt
          clear T4 hb5 x0 x1 x2 hul hpl
          go_wp2_with fail
          go_meet
          exact ⟨now2, _, fs, fa, fp, ks, 0, rfl, rfl, by omega, by omega, after_ok X4.out U4.out T4'.out hup.out, (M5.out _ _ _).mono (by omega), I.out.sweep⟩
        have h0' : (op == 0) = false := by simpa using h0
        by_cases h1 : op = 1
        · have h1' : (op == 1) = true := by simpa using h1
          replace h1 := Lib.hid h1
          replace h0 := Lib.hid h0
          cases hb : pinO bs s a port with
          | some bs' =>
            have hI' := I.out.pin hma.out hpt.out hb
            rw [hp1] at hI'
            replace hI' := Lib.hid hI'
            replace hb := Lib.hid hb
            go_wp2_with fail
            go_at_call 23
            (with_reducible refine (pin_ok T2.out.tab hr.out hma.out hpt.out hb.out).mono ?_)
            rintro e w4 ⟨A4, n4, c4, rfl, T4, hb5⟩
            have T4' := Lib.hid (T4.base hs9.out)
            have T9 := Lib.hid (T2.out.below hb5)
            have X4 := Lib.hid (X2.out.below hb5)
            have U4 := Lib.hid (U.out.below hb5)
            have M4 := Lib.hid (M2.out.below hb5)
            have M5 := Lib.hid fun (v0 v1 v2 : Value) => M4.out.three hu9.out hu1.out hu2.out hu3.out v0 v1 v2
            have d0 := U4.out.c (i := 0) rfl
            have d1 := U4.out.c (i := 1) rfl
            have d2 := U4.out.c (i := 2) rfl
            have f0 := U4.out.f 0
            have f1 := U4.out.f 1
            have f2 := U4.out.f 2
            have hul4 := U4.out.lt
            clear T4 hb5 x0 x1 x2 hul hpl
            go_wp2_with (first | (at_mapUpdate; refine MapP.wpList_store rfl _ _ _ rfl rfl ((M5.out _ _ _).pin) (by omega) rfl rfl hawf (hp3) ?_; intro w6 Mp g6))
            go_meet
            exact ⟨now, _, _, _, _, _, 0, rfl, rfl, by omega, by omega, (after_ok X4.out U4.out T4'.out hup.out).map g6 (MapF.block ((M5.out _ _ _).pin)), (((M5.out _ _ _).storePin g6 Mp PL.out (by omega)).mono (by omega)), hI'.out⟩
          | none =>
            replace hb := Lib.hid hb
            go_wp2_with fail
            go_at_call 23
            (with_reducible refine (pin_full T2.out.tab hr.out hma.out hpt.out hb.out).mono ?_)
            rintro e w4 ⟨A4, n4, c4, rfl, T4, hb5⟩
            have T4' := Lib.hid (T4.base hs9.out)
            have T9 := Lib.hid (T2.out.below hb5)
            have X4 := Lib.hid (X2.out.below hb5)
            have U4 := Lib.hid (U.out.below hb5)
            have M4 := Lib.hid (M2.out.below hb5)
            have M5 := Lib.hid fun (v0 v1 v2 : Value) => M4.out.three hu9.out hu1.out hu2.out hu3.out v0 v1 v2
            have d0 := U4.out.c (i := 0) rfl
            have d1 := U4.out.c (i := 1) rfl
            have d2 := U4.out.c (i := 2) rfl
            have f0 := U4.out.f 0
            have f1 := U4.out.f 1
            have f2 := U4.out.f 2
            have hul4 := U4.out.lt
            clear T4 hb5 x0 x1 x2 hul hpl
            go_wp2_with fail
            go_meet
            exact ⟨now, _, fs, fa, fp, ks, 5, rfl, rfl, by omega, by omega, after_no X4.out U4.out T9.out hup.out (.inr rfl) _ _ _, (M5.out _ _ _).mono (by omega), I.out⟩
        have h1' : (op == 1) = false := by simpa using h1
        by_cases h2 : op = 2
        · have h2' : (op == 2) = true := by simpa using h2
          replace h2 := Lib.hid h2
          replace h1 := Lib.hid h1
          replace h0 := Lib.hid h0
          obtain ⟨pv, hpv⟩ : ∃ x, fp a = x := ⟨_, rfl⟩
          have hpn := I.out.pinned (a := a)
          rw [hpv] at hpn
          rcases hpn with ⟨hps, hpp⟩ | ⟨hps, hpp⟩
          · obtain ⟨bs', hb⟩ : ∃ bs', unpinO bs a = some bs' := by
              obtain ⟨y, hy⟩ := Option.isSome_iff_exists.1 hps
              exact ⟨_, by unfold unpinO; rw [hy]; rfl⟩
            have hI' := Lib.hid (I.out.unpin hb)
            replace hb := Lib.hid hb
            replace hps := Lib.hid hps
            go_wp2_with fail
            go_at_call 24
            (with_reducible refine (unpin_ok T2.out.tab hr.out hma.out hb.out).mono ?_)
            rintro e w4 ⟨A4, n4, c4, rfl, T4, hb5⟩
            have T4' := Lib.hid (T4.base hs9.out)
            have T9 := Lib.hid (T2.out.below hb5)
            have X4 := Lib.hid (X2.out.below hb5)
            have U4 := Lib.hid (U.out.below hb5)
            have M4 := Lib.hid (M2.out.below hb5)
            have M5 := Lib.hid fun (v0 v1 v2 : Value) => M4.out.three hu9.out hu1.out hu2.out hu3.out v0 v1 v2
            have d0 := U4.out.c (i := 0) rfl
            have d1 := U4.out.c (i := 1) rfl
            have d2 := U4.out.c (i := 2) rfl
            have f0 := U4.out.f 0
            have f1 := U4.out.f 1
            have f2 := U4.out.f 2
            have hul4 := U4.out.lt
            clear T4 hb5 x0 x1 x2 hul hpl
            go_wp2_with (first | (at_lookup; refine MapP.wpList_look rfl _ _ rfl rfl ((M5.out _ _ _).pin) rfl hawf ?_) | (at_mapUpdate; refine MapP.wpList_store rfl _ _ _ rfl rfl ((M5.out _ _ _).pin) (by omega) rfl rfl hawf (hz9) ?_; intro w6 Mp g6) | (at_mapUpdate; refine MapP.wpList_store rfl _ _ _ rfl rfl (((M5.out _ _ _).storePin g6 Mp PL.out (Nat.le_succ _)).seen.choose_spec) (by omega) rfl rfl hawf (hz9) ?_; intro w7 Mq g7))
            go_meet
            exact ⟨now, _, _, _, _, _, 0, rfl, rfl, by omega, by omega, ((after_ok X4.out U4.out T4'.out hup.out).map g6 (MapF.block ((M5.out _ _ _).pin))).map g7 (MapF.block (((M5.out _ _ _).storePin g6 Mp PL.out (Nat.le_succ _)).seen.choose_spec)), ((((M5.out _ _ _).storePin g6 Mp PL.out (Nat.le_succ _)).storeSeen g7 Mq PL.out (Nat.le_succ _)).mono (by omega)), hI'.out⟩
          · replace hps := Lib.hid hps
            go_wp2_with fail
            go_at_call 24
            (with_reducible refine (unpin_no T2.out.tab hr.out hma.out hps.out).mono ?_)
            rintro e w4 ⟨A4, n4, c4, rfl, T4, hb5⟩
            have T4' := Lib.hid (T4.base hs9.out)
            have T9 := Lib.hid (T2.out.below hb5)
            have X4 := Lib.hid (X2.out.below hb5)
            have U4 := Lib.hid (U.out.below hb5)
            have M4 := Lib.hid (M2.out.below hb5)
            have M5 := Lib.hid fun (v0 v1 v2 : Value) => M4.out.three hu9.out hu1.out hu2.out hu3.out v0 v1 v2
            have d0 := U4.out.c (i := 0) rfl
            have d1 := U4.out.c (i := 1) rfl
            have d2 := U4.out.c (i := 2) rfl
            have f0 := U4.out.f 0
            have f1 := U4.out.f 1
            have f2 := U4.out.f 2
            have hul4 := U4.out.lt
            clear T4 hb5 x0 x1 x2 hul hpl
            go_wp2_with (first | (at_lookup; refine MapP.wpList_look rfl _ _ rfl rfl ((M5.out _ _ _).pin) rfl hawf ?_))
            go_meet
            exact ⟨now, _, fs, fa, fp, ks, 4, rfl, rfl, by omega, by omega, after_no X4.out U4.out T9.out hup.out (.inl rfl) _ _ _, (M5.out _ _ _).mono (by omega), I.out⟩
        have h2' : (op == 2) = false := by simpa using h2
        by_cases h3 : op = 3
        · have h3' : (op == 3) = true := by simpa using h3
          replace h3 := Lib.hid h3
          replace h2 := Lib.hid h2
          replace h1 := Lib.hid h1
          replace h0 := Lib.hid h0
          obtain ⟨pm, hpm⟩ : ∃ x, port - 1 = x := ⟨_, rfl⟩
          have hpm2 : wrap64 pm = pm := IntWalk.wrap64_in _ (by omega)
          have hpm3 : (portB pm || pm == -1) = true := by
            by_cases h : pm = -1
            · simp [h]
            · rw [portB_iff.2 ⟨by omega, by omega⟩]; rfl
          replace hpm3 := Lib.hid hpm3
          go_wp2_with fail
          go_at_call 26
          (with_reducible refine (flush_yes T2.out.tab hr.out hpm3.out).mono ?_)
          rintro e w4 ⟨A4, n4, c4, rfl, T4, hb5⟩
          have T4' := Lib.hid (T4.base hs9.out)
          have T9 := Lib.hid (T2.out.below hb5)
          have X4 := Lib.hid (X2.out.below hb5)
          have U4 := Lib.hid (U.out.below hb5)
          have M4 := Lib.hid (M2.out.below hb5)
          have M5 := Lib.hid fun (v0 v1 v2 : Value) => M4.out.three hu9.out hu1.out hu2.out hu3.out v0 v1 v2
          have d0 := U4.out.c (i := 0) rfl
          have d1 := U4.out.c (i := 1) rfl
          have d2 := U4.out.c (i := 2) rfl
          have f0 := U4.out.f 0
          have f1 := U4.out.f 1
          have f2 := U4.out.f 2
          have hul4 := U4.out.lt
          clear T4 hb5 x0 x1 x2 hul hpl
          go_wp2_with fail
          go_meet
          exact ⟨now, _, fs, fa, fp, ks, 0, rfl, rfl, by omega, by omega, after_ok X4.out U4.out T4'.out hup.out, (M5.out _ _ _).mono (by omega), I.out.flush⟩
        have h3' : (op == 3) = false := by simpa using h3
        replace h3 := Lib.hid h3
        replace h2 := Lib.hid h2
        replace h1 := Lib.hid h1
        replace h0 := Lib.hid h0
        have ht := Lib.hid (timeB_iff.2 (show 0 ≤ now ∧ now ≤ 1099511627776 by omega))
        have hok : Hid (learnOk bs s ag a port now = true) := Lib.hid (by unfold learnOk; rw [hr.out, hma.out, hpt.out, ht.out]; rfl)
        have fok : Hid (∀ b, rightT b s ag = true → findOk b s ag a now = true) := Lib.hid fun b hb => by unfold findOk; rw [hb, hma.out, ht.out]; rfl
        obtain ⟨pv, hpv⟩ : ∃ x, fp a = x := ⟨_, rfl⟩
        by_cases hf : pv = 0
        · obtain ⟨hI', hor⟩ := I.out.learn hma.out hpt.out ht.out (hpv.trans hf)
          rw [hp1] at hI'
          obtain ⟨bs', hL⟩ : ∃ b, learnT bs s a port now = b := ⟨_, rfl⟩
          obtain ⟨q, hq⟩ : ∃ x, findI bs' ag a now = x := ⟨_, rfl⟩
          rw [hL] at hI' hor
          rw [hq] at hor
          have hf' : (pv == 0) = true := by simpa using hf
          replace hI' := Lib.hid hI'
          replace hL := Lib.hid hL
          replace hq := Lib.hid hq
          replace hor := Lib.hid hor
          replace hf := Lib.hid hf
          go_wp2_with fail
          go_at_call 10
          (with_reducible refine (learn_yes T2.out.tab hok.out hL.out).mono ?_)
          rintro e w4 ⟨A4, n4, c4, rfl, T4, hb5⟩
          have T4' := Lib.hid (T4.base hs9.out)
          have T9 := Lib.hid (T2.out.below hb5)
          have X4 := Lib.hid (X2.out.below hb5)
          have U4 := Lib.hid (U.out.below hb5)
          have M4 := Lib.hid (M2.out.below hb5)
          have M5 := Lib.hid fun (v0 v1 v2 : Value) => M4.out.three hu9.out hu1.out hu2.out hu3.out v0 v1 v2
          have d0 := U4.out.c (i := 0) rfl
          have d1 := U4.out.c (i := 1) rfl
          have d2 := U4.out.c (i := 2) rfl
          have f0 := U4.out.f 0
          have f1 := U4.out.f 1
          have f2 := U4.out.f 2
          have hul4 := U4.out.lt
          clear T4 hb5 x0 x1 x2 hul hpl
          have U5 := Lib.hid fun (v0 v1 v2 : Value) => Bx.three (u0 := v0) (u1 := v1) (u2 := v2) U4.out
          have T5 := Lib.hid fun (v0 v1 v2 : Value) => T4'.out.hi (Hi.box3 U4.out v0 v1 v2)
          go_wp2_with (first | (at_lookup; refine MapP.wpList_look rfl _ _ rfl rfl ((M5.out _ _ _).pin) rfl hawf ?_) | (at_mapUpdate; refine MapP.wpList_store rfl _ _ _ rfl rfl ((M5.out _ _ _).seen.choose_spec) (by omega) rfl rfl hawf (hp3) ?_; intro w6 Ma g6) | (at_mapUpdate; refine MapP.wpList_store rfl _ _ _ rfl rfl (((M5.out _ _ _).storeSeen g6 Ma PL.out (Nat.le_succ _)).at_.choose_spec) (by omega) rfl rfl hawf (hnwf) ?_; intro w7 Mb g7; have U7 := ((U5.out _ _ _).grown' g6 (MapF.block ((M5.out _ _ _).seen.choose_spec))).grown' g7 (MapF.block (((M5.out _ _ _).storeSeen g6 Ma PL.out (Nat.le_succ _)).at_.choose_spec)); have e0 := U7.c (i := 0) rfl; have e1 := U7.c (i := 1) rfl; have e2 := U7.c (i := 2) rfl; have eul := U7.lt))
          have T7 := Lib.hid (((T5.out _ _ _).hi (Hi.grown g6 (MapF.block ((M5.out _ _ _).seen.choose_spec)))).hi (Hi.grown g7 (MapF.block (((M5.out _ _ _).storeSeen g6 Ma PL.out (Nat.le_succ _)).at_.choose_spec))))
          have A7 := Lib.hid (((after_ok X4.out U4.out T4'.out hup.out).map g6 (MapF.block ((M5.out _ _ _).seen.choose_spec))).map g7 (MapF.block (((M5.out _ _ _).storeSeen g6 Ma PL.out (Nat.le_succ _)).at_.choose_spec)))
          have M7 := Lib.hid (((M5.out _ _ _).storeSeen g6 Ma PL.out (Nat.le_succ _)).storeAt g7 Mb PL.out (Nat.le_succ _))
          clear e0 e1 e2 d0 d1 d2 f0 f1 f2
          go_at_call 11
          (with_reducible refine (find_yes T7.out.tab (fok.out _ hI'.out.right) hq.out).mono ?_)
          rintro e w8 ⟨rfl, hb8⟩
          have A8 := Lib.hid (A7.out.below hb8)
          have M8 := Lib.hid (M7.out.below hb8)
          clear hb8 T7 A7 M7 M5 T5 U5 Ma Mb g6 g7 eul U7
          by_cases hqn : q = -1
          · have hqn' : (q == -1) = true := by simpa using hqn
            have hsl : s ≤ (ks.length : Int) := by
              rcases hor.out with h | h
              · exact absurd hqn h
              · exact h
            have hsl2 : ¬ (ks.length : Int) < s := by omega
            have hlen := fun ty => MapP.run_len M8.out.pin ty
            replace hqn := Lib.hid hqn
            go_wp2_with fail
            go_meet
            exact ⟨now, _, _, _, fp, ks, 0, rfl, rfl, by omega, by omega, A8.out, M8.out.mono (by omega), hI'.out⟩
          · have hqn' : (q == -1) = false := by simpa using hqn
            replace hqn := Lib.hid hqn
            go_wp2_with fail
            go_meet
            exact ⟨now, _, _, _, fp, ks, 0, rfl, rfl, by omega, by omega, A8.out, M8.out.mono (by omega), hI'.out⟩
        · obtain ⟨hL, hq, hqn⟩ := I.out.learnPinned (port := port) (now := now) (a := a) (by rw [hpv]; exact hf)
          rw [hpv] at hq hqn
          obtain ⟨q, hqq⟩ : ∃ x, pv - 1 = x := ⟨_, rfl⟩
          rw [hqq] at hq hqn
          have hf' : (pv == 0) = false := by simpa using hf
          have hqn' : (q == -1) = false := by simpa using hqn
          replace hL := Lib.hid hL
          replace hq := Lib.hid hq
          replace hqn := Lib.hid hqn
          replace hf := Lib.hid hf
          replace hqq := Lib.hid hqq
          go_wp2_with fail
          go_at_call 10
          (with_reducible refine (learn_yes T2.out.tab hok.out hL.out).mono ?_)
          rintro e w4 ⟨A4, n4, c4, rfl, T4, hb5⟩
          have T4' := Lib.hid (T4.base hs9.out)
          have T9 := Lib.hid (T2.out.below hb5)
          have X4 := Lib.hid (X2.out.below hb5)
          have U4 := Lib.hid (U.out.below hb5)
          have M4 := Lib.hid (M2.out.below hb5)
          have M5 := Lib.hid fun (v0 v1 v2 : Value) => M4.out.three hu9.out hu1.out hu2.out hu3.out v0 v1 v2
          have d0 := U4.out.c (i := 0) rfl
          have d1 := U4.out.c (i := 1) rfl
          have d2 := U4.out.c (i := 2) rfl
          have f0 := U4.out.f 0
          have f1 := U4.out.f 1
          have f2 := U4.out.f 2
          have hul4 := U4.out.lt
          clear T4 hb5 x0 x1 x2 hul hpl
          have T5 := Lib.hid fun (v0 v1 v2 : Value) => T4'.out.hi (Hi.box3 U4.out v0 v1 v2)
          go_wp2_with (first | (at_lookup; refine MapP.wpList_look rfl _ _ rfl rfl ((M5.out _ _ _).pin) rfl hawf ?_))
          go_at_call 11
          (with_reducible refine (find_yes (T5.out _ _ _).tab (fok.out _ hr.out) hq.out).mono ?_)
          rintro e w8 ⟨rfl, hb8⟩
          have A8 := Lib.hid ((after_ok X4.out U4.out T4'.out hup.out).below hb8)
          have M8 := Lib.hid ((M5.out _ _ _).below hb8)
          clear hb8 M5 T5 d0 d1 d2 f0 f1 f2
          go_wp2_with fail
          go_meet
          exact ⟨now, _, fs, fa, fp, ks, 0, rfl, rfl, by omega, by omega, A8.out, M8.out.mono (by omega), I.out⟩
      case rest =>
        clear X2 T2 M2 U I hul hpl hs9 
        obtain ⟨now', bs', fs', fa', fp', ks', er, rfl, rfl, hn2, hn3, hA, hM, hI⟩ := hcut
        replace hA := Lib.hid hA
        replace hM := Lib.hid hM
        replace hI := Lib.hid hI
        replace hop := Lib.hid hop
        replace hport := Lib.hid hport
        replace hax := Lib.hid hax
        replace ha := Lib.hid ha
        go_upto_if 178 with fail
        go_cut [20] from 178 to 185 (fun v20 wx => v20 = .int .i64 er ∧ Box w p s ag wx bs' ∧ Ms w m1 m2 m3 wx fs' fa' fp' ks' (2 * k + 2))
        case first =>
          rcases hA.out with ⟨rfl, ⟨v, hX⟩, A5, n5, c5, hU, hT⟩ | ⟨rfl | rfl, hB, v0, v1, v2, hU⟩
          · have x0 := hU.c (i := 0) rfl
            have x1 := hU.c (i := 1) rfl
            have x2 := hU.c (i := 2) rfl
            have d0 := hX.c (i := 0) rfl
            have d1 := hX.c (i := 1) rfl
            have d2 := hX.c (i := 2) rfl
            have f0 := hX.f 0
            have f1 := hX.f 1
            have f2 := hX.f 2
            have hxl := hX.lt
            have hul := hU.lt
            have hfin := Lib.hid (fun (v0 v1 v2 : Value) => hM.out.three PL.out.p0 PL.out.a1 PL.out.a2 PL.out.a3 v0 v1 v2)
            replace hX := Lib.hid hX
            replace hT := Lib.hid hT
            replace hU := Lib.hid hU
            go_wp2_with fail
            go_meet
            exact ⟨rfl, ⟨A5, n5, c5, hX.out.three, hT.out.hi (Hi.box3 hX.out _ _ _)⟩, hfin.out _ _ _⟩
          · replace hB := Lib.hid hB
            replace hU := Lib.hid hU
            go_wp2_with fail
            go_meet
            exact ⟨rfl, hB.out, hM.out⟩
          · replace hB := Lib.hid hB
            replace hU := Lib.hid hU
            go_wp2_with fail
            go_meet
            exact ⟨rfl, hB.out, hM.out⟩
        case rest =>
          clear hA hM
          obtain ⟨-, hB2, hM2⟩ := hcut
          replace hB2 := Lib.hid hB2
          replace hM2 := Lib.hid hM2
          go_wp2_with fail
          go_loopw [186] (fun i wr => ∃ kk : Nat, kk ≤ 12 ∧ i = .int .i64 kk ∧ Box w p s ag wr bs' ∧ Ms w m1 m2 m3 wr fs' fa' fp' ks' (2 * k + 2)) (fun i _ => 12 - (intOf i).toNat)
          case atStart => exact ⟨0, by omega, rfl, hB2.out, hM2.out⟩
          case round =>
            clear hB2 hM2
            obtain ⟨kk, hkk, rfl, ⟨A, n, c, X, T⟩, M⟩ := hrel
            have x0 := X.c (i := 0) rfl
            have x1 := X.c (i := 1) rfl
            have x2 := X.c (i := 2) rfl
            have hxl := X.lt
            replace X := Lib.hid X
            replace T := Lib.hid T
            replace M := Lib.hid M
            by_cases hk12 : kk < 12
            · obtain ⟨x, hx⟩ : ∃ x, 2 * (kk : Int) = x := ⟨_, rfl⟩
              have hmx : macB x = true := by rw [← hx]; exact macB_two (by omega) (by omega)
              have hx9 : 0 ≤ x ∧ x < 24 := by omega
              obtain ⟨hx1, hx2⟩ := hx9
              have hxw : wrap64 x = x := IntWalk.wrap64_in _ (by omega)
              have hxwf : (Lit.int .i64 x).wf = true := WalkArith.wf_i64 (by omega)
              have fok : Hid (findOk bs' s ag x now' = true) := Lib.hid (by unfold findOk; rw [hI.out.right, hmx, timeB_iff.2 ⟨by omega, by omega⟩]; rfl)
              obtain ⟨q, hq⟩ : ∃ q, findI bs' ag x now' = q := ⟨_, rfl⟩
              have found := hI.out.found (x := x) (now := now')
              rw [hq] at found
              replace hq := Lib.hid hq
              replace found := Lib.hid found
              clear hmx
              go_wp2_with fail
              go_at_call 11
              (with_reducible refine (find_yes T.out.tab fok.out hq.out).mono ?_)
              rintro e w5 ⟨rfl, hb5⟩
              have X5 := Lib.hid (X.out.below hb5)
              have T5 := Lib.hid (T.out.below hb5)
              have M5 := Lib.hid (M.out.below hb5)
              clear X T M hb5 x0 x1 x2 hxl
              have L3 := MapP.run_look M5.out.pin hxwf
              have L1 := MapP.run_look M5.out.seen.choose_spec hxwf
              have L2 := MapP.run_look M5.out.at_.choose_spec hxwf
              replace found := found.out
              generalize fp' x = vp at L3 found
              generalize fs' x = vs at L1 found
              generalize fa' x = va at L2 found
              rcases found with ⟨h1, h2, h3⟩ | ⟨rfl, rfl⟩ | ⟨rfl, h2, h3, h4, h5, h6, h7, h8⟩
              · have hq1 : vp - 1 = q := h3.symm
                have hq2 : wrap64 q = q := IntWalk.wrap64_in _ (by omega)
                have hv0 : (vp == 0) = false := by simp; omega
                clear h3
                go_wp2_with fail
                go_roundw
                case rel => exact ⟨kk + 1, by omega, by go_num, ⟨A, n, c, X5.out, T5.out⟩, M5.out⟩
                case measure => simp [intOf]; omega
              · go_wp2_with fail
                go_roundw
                case rel => exact ⟨kk + 1, by omega, by go_num, ⟨A, n, c, X5.out, T5.out⟩, M5.out⟩
                case measure => simp [intOf]; omega
              · have hq1 : vs - 1 = q := h3.symm
                have hq2 : wrap64 q = q := IntWalk.wrap64_in _ (by omega)
                have hq3 : (q == -1) = false := by simpa using h2
                obtain ⟨dv, hdv⟩ : ∃ d, now' - va = d := ⟨_, rfl⟩
                rw [hdv] at h8
                have hd2 : wrap64 dv = dv := IntWalk.wrap64_in _ (by omega)
                clear h3
                go_wp2_with fail
                go_roundw
                case rel => exact ⟨kk + 1, by omega, by go_num, ⟨A, n, c, X5.out, T5.out⟩, M5.out⟩
                case measure => simp [intOf]; omega
            · obtain rfl : kk = 12 := by omega
              go_wp2_with fail
              go_roundw
              case rel => exact ⟨k + 1, now', bs', fs', fa', fp', ks', by omega, by go_num, rfl, by omega, by omega, ⟨A, n, c, X.out, T.out⟩, M.out.mono (by omega), hI.out⟩
              case measure => simp [intOf]; omega
    · obtain rfl : k = m := by omega
      have B9 := Lib.hid M.out.bel
      go_wp2_with fail
      go_at_call 14
      (with_reducible refine (alive_any _).mono ?_)
      rintro e w5 ⟨rfl, hb5⟩
      have B6 := bt B9.out hb5
      go_wp2_with fail
      go_ret
      exact ⟨rfl, B6⟩
end Go.Proofs.Ytnghilcjecjljaa.FdbP
