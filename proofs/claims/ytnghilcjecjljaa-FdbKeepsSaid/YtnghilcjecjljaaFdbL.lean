/-
  slices.Insert at entries, of one entry ahead of all.
-/
import Derived.Test.YtnghilcjecjljaaFdbK
import Derived.Test.YtnghilcjecjljaaRowL
import Derived.Laws.Externs
import Derived.Lib.AppendZeros
import Derived.StillTailTactics
namespace Go.Proofs.Ytnghilcjecjljaa.FdbP
open Go.RowKit Go.Sort Go.Proofs.Ytnghilcjecjljaa.SliceP Go.Proofs.Ytnghilcjecjljaa.MacP
set_option linter.unusedVariables false
set_option maxRecDepth 100000

def InsR (w : World) (h : Nat) (l : List E) (e : Ending) (w' : World) : Prop :=
  ∃ h' c', e = .returned (.slice (some ⟨h', 0, none⟩) l.length c') ∧ (RowE w' (some ⟨h', 0, none⟩) l.length c' l ∧ ∃ cs, w'.heap[h']? = some (.cells cs ET (0, 0))) ∧ w.grownBy w' (some h) ∧ (h' = h ∨ w.heap.size ≤ h')
theorem overlaps_not {w : World} {h vb : Nat} {ys : List E} {x : E} (hy : BlkE w h ys) (hv : BlkE w vb [x]) (hne : vb ≠ h) (hys : 0 < ys.length) (o la ca lb cb : Nat) :
    (callFunc 80 #[.slice (some ⟨vb, 0, none⟩) la ca, .slice (some ⟨h, o, none⟩) lb cb]).run Try.prog w = .ok (.value (.bool false)) w := by
  have hz : ∀ w, (Go.sizeOf 57).run Try.prog w = .ok 4 w := fun _ => by kernel_rfl
  have hs : ∀ {g : Nat} {zs : List E}, BlkE w g zs → w.shape? g = some (57, (flatA (zs.map E.cells)).size) := fun {g} {zs} hg => by
    have hg' : w.heap[g]? = _ := hg
    simp [World.shape?, hg']
  have hsz : (flatA (ys.map E.cells)).size = ys.length * 4 := by unfold flatA; rw [List.size_toArray, (wholeE ys).len, List.length_map]
  rw [run_callFunc_extern Try.func80 (by kernel_rfl) (by kernel_rfl) (by kernel_rfl) (e := Extern.SlicesOverlaps.overlaps #[55, 55] #[4]) (by kernel_rfl),
    Lib.run_overlaps_apart w 55 4 57 elE.und 4 hz ⟨vb, 0, none⟩ ⟨h, o, none⟩ la ca lb cb hne _ _ _ _ (hs hv) (hs hy) (by rw [hsz]; omega) (Blk.free hv 0) (Blk.free hv _)]
  rfl
set_option maxHeartbeats 8000000 in
theorem insert_nil {h vb : Nat} {ys : List E} {x : E} {w : World} (hy : BlkE w h ys) (hl : ys.length ≤ 1000000) (hv : BlkE w vb [x]) (hne : vb ≠ h) :
    Calls Try.prog 65 #[.slice (some ⟨h, 0, none⟩) 0 ys.length, .int .i64 0, .slice (some ⟨vb, 0, none⟩) 1 1] w (InsR w h [x]) := by
  have own0 := Lib.hid (Blk.own hy (wholeE ys) (B := 0) (n := 0) (Nat.zero_le _) (Nat.zero_le _) (by rw [List.length_map]; unfold maxLen; omega))
  have hsl := Lib.hid (Blk.sl hv (wholeE [x]))
  have hn1 : Hid (((ys.map E.cells).take 0).length + ([x].map E.cells).length ≤ 1000000) := Lib.hid (by simp)
  rw [List.length_map] at own0
  clear hy hv
  go_enter Try.func65, Try.ntmps65
  go_wp2_with (at_builtin; (refine wpList_append_sl rfl (.tmp 23) (.tmp 24) 55 rfl elE (by rfl) own0.out (by rfl) (by rfl) hsl.out (wholeE [x]) (fun h => by cases h) hn1.out (Nat.zero_le _) ?_); intro v' w1 own1 grow1 hor)
  obtain ⟨A', c', hv', h1, h2, h3⟩ := own1.form
  have hlen : ((ys.map E.cells).take 0 ++ [x].map E.cells).length = 1 := by simp
  rw [hlen] at hv' h1
  subst hv'
  have hrow := own_rowE (B := 0) (l := [x]) (show OwnE w1 0 (.slice A' 1 c') [x] from own1)
  rcases h3 with ⟨_, h4, _⟩ | ⟨g', rfl, _, hg'⟩
  · exact absurd h4 (by simp)
  · have hor' : g' = h ∨ w.heap.size ≤ g' := by
      rcases hor with h5 | h5
      · exact .inl (by simpa [Value.ownBlock] using h5)
      · exact .inr (by have : g' = w.heap.size := by simpa [Value.ownBlock] using h5
                       omega)
    have hty : ∃ cs, w1.heap[g']? = some (.cells cs ET (0, 0)) := by
      rcases own1.row.2 with ⟨h7, _⟩ | ⟨g9, c9, cur, h7, _, h8, _⟩
      · cases h7
      · injection h7 with h7 _ _
        have : g' = g9 := by simpa using congrArg (fun z => z.map Addr.block) h7
        subst this
        exact ⟨cur, h8⟩
    replace hrow := Lib.hid hrow
    replace grow1 := Lib.hid grow1
    replace hty := Lib.hid hty
    clear hor own1 h1 h2
    go_ret
    exact ⟨g', c', rfl, ⟨hrow.out, hty.out⟩, grow1.out, hor'⟩
set_option maxHeartbeats 8000000 in
theorem insert_room {h vb n : Nat} {ys : List E} {x : E} {w : World} (hy : BlkE w h ys) (hl : ys.length ≤ 1000000) (hn0 : 0 < n) (hn : n + 1 ≤ ys.length) (hv : BlkE w vb [x]) (hne : vb ≠ h) :
    Calls Try.prog 65 #[.slice (some ⟨h, 0, none⟩) n ys.length, .int .i64 0, .slice (some ⟨vb, 0, none⟩) 1 1] w (InsR w h (x :: ys.take n)) := by
  have hov := fun o la ca lb cb => overlaps_not hy hv hne (by omega) o la ca lb cb
  have hn1 : ((0 : Int) == (n : Int)) = false := by rw [beq_eq_false_iff_ne]; omega
  have hw1 : IntKind.i64.wrap ((n : Int) + 1) = (n : Int) + 1 := IntWalk.i64_in _ (by omega)
  have hroom : ¬ ((ys.length : Int) < (n : Int) + 1) := by omega
  have k1 : IntKind.i64.wrap 1 = 1 := by decide
  have k2 : ¬ (ys.length = 1) := by omega
  have k3 : (1 : Int) ≤ (n : Int) + 1 := by omega
  have k4 : (0 : Int) ≤ (n : Int) + 1 := by omega
  go_enter Try.func65, Try.ntmps65
  go_wp2_with (simp only [hov])
  go_still_tail 8, (by kernel_rfl)
  change wpList _ _ _ _ _ w.drew
  have BD : Below w.heap.size w w.drew := (Below.refl _ _).drew
  generalize w.drew = wd at *
  have hyd : BlkE wd h ys := Blk.below hy BD
  have hvd : BlkE wd vb [x] := Blk.below hv BD
  have hsrc1 : ∀ j v, ((ys.take n).map E.cells).flatten[j]? = some v → wd.cell? ((⟨h, 0, none⟩ : Addr).add j) = some v := fun j v hj => by
    have := Sl.flat_at (Sl.take (Blk.sl hyd (wholeE ys)) n) ((wholeE ys).take n) (by decide) j v (by rw [← List.map_take]; exact hj)
    exact this
  have hln : ((ys.take n).map E.cells).length = n := by rw [List.length_map, List.length_take]; omega
  obtain ⟨w2, hc1, hb2, hg2, hz2⟩ := run_copy_blk (P := Try.prog) wd 55 55 3 elE 1 n (ys.length - 1) ⟨h, 0, none⟩ (n + 1) ys.length hyd (wholeE ys) (wholeE (ys.take n)) (by rw [hln]; simp only [Nat.min_def]; split <;> omega) hsrc1 (by rw [hln, List.length_map]; omega)
  have hw2 : Whole 4 ((ys.map E.cells).take 1 ++ (ys.take n).map E.cells ++ (ys.map E.cells).drop (1 + ((ys.take n).map E.cells).length)) := (((wholeE ys).take 1).append (wholeE (ys.take n))).append ((wholeE ys).drop _)
  have hvd2 : BlkE w2 vb [x] := Blk.grown hvd hg2 (by simpa using hne)
  have hsrc2 : ∀ j v, ([x].map E.cells).flatten[j]? = some v → w2.cell? ((⟨vb, 0, none⟩ : Addr).add j) = some v := fun j v hj => Sl.flat_at (Blk.sl hvd2 (wholeE [x])) (wholeE [x]) (by decide) j v hj
  obtain ⟨w3, hc2, hb3, hg3, hz3⟩ := run_copy_blk (P := Try.prog) w2 55 55 3 elE 0 (n + 1) ys.length ⟨vb, 0, none⟩ 1 1 hb2 hw2 (wholeE [x]) (by simp) hsrc2 (by simp; omega)
  rw [hln, Nat.one_mul] at hc1
  rw [Nat.zero_mul] at hc2
  have hfin : RowE w3 (some ⟨h, 0, none⟩) (n + 1) ys.length (x :: ys.take n) := by
    have hl3 : (ys.map E.cells).take 1 ++ (ys.take n).map E.cells ++ (ys.map E.cells).drop (1 + ((ys.take n).map E.cells).length) = ((ys.take 1) ++ ys.take n ++ ys.drop (1 + n)).map E.cells := by
      rw [hln]; simp
    rw [hl3] at hb3
    have e : List.take 0 ((ys.take 1 ++ ys.take n ++ ys.drop (1 + n)).map E.cells) ++ [x].map E.cells ++ List.drop (0 + ([x].map E.cells).length) ((ys.take 1 ++ ys.take n ++ ys.drop (1 + n)).map E.cells) = ([x] ++ (ys.take n ++ ys.drop (1 + n))).map E.cells := by
      rw [← List.map_drop]
      have h1 : (ys.take 1).length = 1 := by rw [List.length_take]; omega
      have h2 : List.drop (0 + ([x].map E.cells).length) (ys.take 1 ++ ys.take n ++ ys.drop (1 + n)) = ys.take n ++ ys.drop (1 + n) := by
        rw [List.append_assoc, show 0 + ([x].map E.cells).length = (ys.take 1).length by rw [h1]; rfl, List.drop_left]
      rw [h2]; simp
    rw [e] at hb3
    have hlen : ([x] ++ (ys.take n ++ ys.drop (1 + n))).length = ys.length := by simp; omega
    have := BlkE.row hb3 (n + 1) (by rw [hlen]; omega)
    rw [hlen] at this
    have e2 : ([x] ++ (ys.take n ++ ys.drop (1 + n))).take (n + 1) = x :: ys.take n := by
      rw [List.singleton_append, List.take_succ_cons, List.take_left' (by rw [List.length_take]; omega)]
    rw [e2] at this; exact this
  have hty := Lib.hid (show ∃ cs, w3.heap[h]? = some (.cells cs ET (0, 0)) from ⟨_, hb3⟩)
  have hgr : w.grownBy w3 (some h) := ((below_grown BD).trans hg2).trans hg3
  have hl9 : (x :: ys.take n).length = n + 1 := by rw [List.length_cons, List.length_take]; omega
  replace hfin := Lib.hid hfin
  replace hgr := Lib.hid hgr
  replace hl9 := Lib.hid hl9
  clear hb2 hg2 hz2 hw2 hvd2 hsrc2 hb3 hg3 hz3 hsrc1 hln hyd hvd BD hov
  go_wp2_with fail
  go_ret
  exact ⟨h, ys.length, by rw [hl9.out]; rfl, by rw [hl9.out]; exact ⟨hfin.out, hty.out⟩, hgr.out, .inl rfl⟩
set_option maxHeartbeats 8000000 in
theorem insert_grow {h vb n : Nat} {ys : List E} {x : E} {w : World} (hy : BlkE w h ys) (hl : ys.length ≤ 1000000) (hn0 : 0 < n) (hn : ys.length = n) (hv : BlkE w vb [x]) (hne : vb ≠ h) :
    Calls Try.prog 65 #[.slice (some ⟨h, 0, none⟩) n ys.length, .int .i64 0, .slice (some ⟨vb, 0, none⟩) 1 1] w (InsR w h (x :: ys.take n)) := by
  have hn1 : ((0 : Int) == (n : Int)) = false := by rw [beq_eq_false_iff_ne]; omega
  have hw1 : IntKind.i64.wrap ((n : Int) + 1) = (n : Int) + 1 := IntWalk.i64_in _ (by omega)
  have hw2 : IntKind.i64.wrap ((n : Int) + 1 - 0) = ((n + 1 : Nat) : Int) := IntWalk.i64_in _ (by omega)
  have hroom : (ys.length : Int) < (n : Int) + 1 := by omega
  have k1 : IntKind.i64.wrap 1 = 1 := by decide
  have k3 : (1 : Int) ≤ (n : Int) + 1 := by omega
  have k4 : (0 : Int) ≤ (n : Int) + 1 := by omega
  obtain ⟨cap, w1, hap, hb1, hB1, hcap⟩ := run_append_zeros (P := Try.prog) (t := 55) (ti := 3) (ty := 55) elE (by kernel_rfl) zvE ⟨h, 0, none⟩ ys.length (n + 1) (by omega) (by omega) w
  have hap' : (Builtin.append_ #[55, 3] 55 #[.slice (some ⟨h, 0, none⟩) 0 ys.length, .int .i64 ((n : Int) + 1)]).run Try.prog w = .ok (.slice (some ⟨w.heap.size, 0, none⟩) (n + 1) cap) w1 := by
    have : ((n + 1 : Nat) : Int) = (n : Int) + 1 := by omega
    rw [this] at hap; exact hap
  have hb1' : BlkE w1 w.heap.size (List.replicate cap zE) := by unfold BlkE; rw [List.map_replicate]; exact hb1
  have hvd2 : BlkE w1 vb [x] := Blk.below hv hB1
  have hsrc2 : ∀ j v, ([x].map E.cells).flatten[j]? = some v → w1.cell? ((⟨vb, 0, none⟩ : Addr).add j) = some v := fun j v hj => Sl.flat_at (Blk.sl hvd2 (wholeE [x])) (wholeE [x]) (by decide) j v hj
  obtain ⟨w2, hc2, hb2, hg2, hz2⟩ := run_copy_blk (P := Try.prog) w1 55 55 3 elE 0 (n + 1) cap ⟨vb, 0, none⟩ 1 1 hb1' (wholeE _) (wholeE [x]) (by simp) hsrc2 (by simp; omega)
  rw [Nat.zero_mul] at hc2
  have e2 : List.take 0 ((List.replicate cap zE).map E.cells) ++ [x].map E.cells ++ List.drop (0 + ([x].map E.cells).length) ((List.replicate cap zE).map E.cells) = ([x] ++ List.replicate (cap - 1) zE).map E.cells := by
    rw [← List.map_drop, List.length_map, List.length_singleton, List.drop_replicate]; simp
  rw [e2] at hb2
  have hlt1 : h < w.heap.size := hy.lt
  have hlt2 : vb < w.heap.size := hv.lt
  have hyw2 : BlkE w2 h ys := Blk.grown (Blk.below hy hB1) hg2 (by simp; omega)
  have hB2 : Below w.heap.size w w2 := hB1.trans (grown_below hg2 (fun j hj => by cases hj; omega) hB1.size)
  have k5 : ¬ (cap = 1) := by omega
  replace hn := Lib.hid hn
  replace hb2 := Lib.hid hb2
  replace hyw2 := Lib.hid hyw2
  replace hz2 := Lib.hid hz2
  clear hap hb1 hb1' hvd2 hsrc2 hg2 e2 hB1
  go_enter Try.func65, Try.ntmps65
  go_wp2_with (at_builtin; refine Lib.wpList_append_run w rfl (.tmp 34) (.tmp 39) 55 3 rfl _ _ (by rfl) (by rfl) _ _ hap' ?_)
  go_still_tail 8, (by kernel_rfl)
  change wpList _ _ _ _ _ w2.drew
  have BD : Below w2.heap.size w2 w2.drew := (Below.refl _ _).drew
  generalize w2.drew = wd at *
  have hyd : BlkE wd h ys := Blk.below hyw2.out BD
  have hbd : BlkE wd w.heap.size ([x] ++ List.replicate (cap - 1) zE) := Blk.below hb2.out BD
  have hln : ((ys.take n).map E.cells).length = n := by rw [List.length_map, List.length_take, hn.out, Nat.min_self]
  have hsrc1 : ∀ j v, ((ys.take n).map E.cells).flatten[j]? = some v → wd.cell? ((⟨h, 0, none⟩ : Addr).add j) = some v := fun j v hj =>
    Sl.flat_at (Sl.take (Blk.sl hyd (wholeE ys)) n) ((wholeE ys).take n) (by decide) j v (by rw [← List.map_take]; exact hj)
  obtain ⟨w3, hc3, hb3, hg3, hz3⟩ := run_copy_blk (P := Try.prog) wd 55 55 3 elE 1 n (cap - 1) ⟨h, 0, none⟩ n ys.length hbd (wholeE _) (wholeE (ys.take n)) (by rw [hln]; simp) hsrc1 (by rw [hln]; simp; omega)
  rw [hln, Nat.one_mul] at hc3
  have hfin : RowE w3 (some ⟨w.heap.size, 0, none⟩) (n + 1) cap (x :: ys.take n) := by
    have e : List.take 1 (([x] ++ List.replicate (cap - 1) zE).map E.cells) ++ (ys.take n).map E.cells ++ List.drop (1 + ((ys.take n).map E.cells).length) (([x] ++ List.replicate (cap - 1) zE).map E.cells) = ([x] ++ ys.take n ++ List.replicate (cap - 1 - n) zE).map E.cells := by
      rw [hln, ← List.map_take, ← List.map_drop, Nat.add_comm 1 n]; simp
    rw [e] at hb3
    have hlt : (ys.take n).length = n := by rw [List.length_take, hn.out, Nat.min_self]
    have hlen : ([x] ++ ys.take n ++ List.replicate (cap - 1 - n) zE).length = cap := by rw [List.length_append, List.length_append, hlt, List.length_replicate, List.length_singleton]; omega
    have := BlkE.row hb3 (n + 1) (by rw [hlen]; omega)
    rw [hlen] at this
    have e2 : ([x] ++ ys.take n ++ List.replicate (cap - 1 - n) zE).take (n + 1) = x :: ys.take n := by
      rw [List.append_assoc, List.singleton_append, List.take_succ_cons, List.take_left' hlt]
    rw [e2] at this; exact this
  have hty := Lib.hid (show ∃ cs, w3.heap[w.heap.size]? = some (.cells cs ET (0, 0)) from ⟨_, hb3⟩)
  have hgr : w.grownBy w3 (some h) := by
    have := (hB2.trans (BD.mono hB2.size)).trans (grown_below hg3 (fun j hj => by cases hj; exact Nat.le_refl _) (by have := hB2.size; have := BD.size; omega))
    exact below_grown this
  have hl9 : (x :: ys.take n).length = n + 1 := by rw [List.length_cons, List.length_take, hn.out, Nat.min_self]
  replace hfin := Lib.hid hfin
  replace hgr := Lib.hid hgr
  replace hl9 := Lib.hid hl9
  clear hb3 hg3 hz3 hsrc1 hln hyd hbd BD
  go_wp2_with fail
  go_ret
  exact ⟨w.heap.size, cap, by rw [hl9.out]; rfl, by rw [hl9.out]; exact ⟨hfin.out, hty.out⟩, hgr.out, .inr (Nat.le_refl _)⟩
theorem fdInsert {h vb n : Nat} {ys : List E} {x : E} {w : World} (hy : BlkE w h ys) (hl : ys.length ≤ 1000000) (hn : n ≤ ys.length) (hv : BlkE w vb [x]) (hne : vb ≠ h) :
    Calls Try.prog 65 #[.slice (some ⟨h, 0, none⟩) n ys.length, .int .i64 0, .slice (some ⟨vb, 0, none⟩) 1 1] w (InsR w h (x :: ys.take n)) := by
  rcases Nat.eq_zero_or_pos n with rfl | hn0
  · exact insert_nil hy (by omega) hv hne
  · rcases Nat.lt_or_ge n ys.length with h1 | h1
    · exact insert_room hy (by omega) hn0 h1 hv hne
    · exact insert_grow hy hl hn0 (by omega) hv hne
end Go.Proofs.Ytnghilcjecjljaa.FdbP
