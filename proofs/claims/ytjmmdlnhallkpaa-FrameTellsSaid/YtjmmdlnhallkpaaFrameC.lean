/-
  Contract of frame's join.
-/
import Derived.Test.YtjmmdlnhallkpaaFrameB
import Derived.Laws.AppendOwn
namespace Go.Proofs.Ytjmmdlnhallkpaa.MacP
open Go.RowKit
set_option linter.unusedVariables false

def cat (ss : List ByteArray) : List UInt8 := (ss.map (fun s => s.data.toList)).flatten
def u8s (l : List UInt8) : List Value := l.map fun b => Value.int .u8 b.toNat
theorem cat_step (ss : List ByteArray) (k : Nat) (h : k < ss.length) : cat (ss.take (k + 1)) = cat (ss.take k) ++ (ss.getD k ByteArray.empty).data.toList := by
  unfold cat
  rw [List.take_succ_eq_append_getElem h, List.map_append, List.flatten_append, List.getD_eq_getElem?_getD, List.getElem?_eq_getElem h]
  simp
theorem u8s_app (a b : List UInt8) : u8s (a ++ b) = u8s a ++ u8s b := by simp [u8s]
theorem u8s_str (s : ByteArray) : u8s s.data.toList = Lib.strCells s := rfl
theorem cat_take_le (ss : List ByteArray) (k : Nat) : (cat (ss.take k)).length ≤ (cat ss).length := by
  have h : cat ss = cat (ss.take k) ++ cat (ss.drop k) := by
    unfold cat
    rw [← List.flatten_append, ← List.map_append, List.take_append_drop]
  rw [h, List.length_append]; omega
theorem Try.infoU8 : (Try.prog.info? 5).map (fun i => (i.zero, i.size, i.bytes)) = some (some (.int .u8 0), 1, 1) := by kernel_rfl
theorem str_size (s : ByteArray) : s.data.toList.length = s.size := by simp
theorem own_back {w : World} {base : Nat} {v : Value} {l : List UInt8} (h : w.ownsRow base 5 1 v l.length (u8s l)) : (convert 47 9 v).run Try.prog w = .ok (.string ⟨l.toArray⟩) w := by
  rcases h.2 with ⟨rfl, h0⟩ | ⟨g, cap, cur, rfl, hbg, hg, _, _, _, htake⟩
  · have : l = [] := List.eq_nil_of_length_eq_zero h0
    subst this
    exact run_convert_bytes_nil w 47 5 Try.underlying47 Try.underlying5 0 0 9 Try.underlying9
  · exact run_convert_bytes_back w 47 9 5 ⟨g, 0, none⟩ cap l Try.underlying47 Try.underlying5 Try.underlying9 (fun j hj => by
      have := h.cells (g := g) rfl j (.int .u8 (l[j].toNat : Int)) (by simp [u8s, List.getElem?_eq_getElem hj])
      exact this)

set_option maxHeartbeats 1000000 in
theorem join_any (ss : List ByteArray) (b c : Nat) (w : World) (hb : b < w.heap.size) (hc : ∀ i, i < ss.length → w.cell? ⟨b, i, none⟩ = some (.string (ss.getD i ByteArray.empty)))
    (hs : (cat ss).length ≤ 1000) (hl : ss.length ≤ 1000) :
    Calls Try.prog 40 #[.slice (some ⟨b, 0, none⟩) ss.length c] w fun e w' => e = .returned (.string ⟨(cat ss).toArray⟩) ∧ Below w.heap.size w w' := by
  have HC := Lib.hid hc
  clear hc
  obtain ⟨i0, hi, hz0, hz1, hz2⟩ := info_parts Try.infoU8
  go_enter Try.func40, Try.ntmps40
  go_wp2
  go_loopw [3, 8] (fun v i wr => ∃ k : Nat, k ≤ ss.length ∧ i = .int .i64 k ∧ wr.ownsRow w.heap.size 5 1 v (cat (ss.take k)).length (u8s (cat (ss.take k))) ∧ Below w.heap.size w wr) (fun _ i _ => ss.length - (intOf i).toNat)
  case atStart => exact ⟨0, Nat.zero_le _, rfl, World.ownsRow_nil _ _ _ _, Below.refl _ _⟩
  case round =>
    obtain ⟨k, hk, rfl, hown, hbl⟩ := hrel
    by_cases hlt : k < ss.length
    · have hcell : wr.cell? ⟨b, k, none⟩ = some (.string (ss.getD k ByteArray.empty)) := by
        rw [hbl.cell (p := ⟨b, k, none⟩) hb]; exact HC.out k hlt
      have H1 := Lib.hid (cat_step ss k hlt)
      have h2 := cat_take_le ss (k + 1)
      rw [H1.out, List.length_append, str_size] at h2
      generalize ss.getD k ByteArray.empty = x at *
      have hsz := hbl.size
      generalize hy : cat (ss.take k) = y at *
      have HY := Lib.hid hy
      clear hy
      have e1 := Lib.hid (show y.length + x.size ≤ maxLen by unfold maxLen; omega)
      have e2 : y.length + x.size ≤ 140737488355328 := by omega
      go_wp2_with (at_builtin; refine Lib.wpList_append_own_string _ rfl _ _ 47 9 rfl w.heap.size 5 i0 Try.underlying47 Try.underlying9 hi hz0 hz1 hz2 _ _ _ rfl hown _ rfl e1.out e2 hsz ?_; intro v' w1 hown1 hgrow _)
      go_roundw
      case rel => exact ⟨k + 1, by omega, by go_num, by rw [H1.out, List.length_append, str_size, u8s_app, u8s_str]; exact hown1, hbl.grown hgrow hsz (fun g hg => (hown.lt g hg).1)⟩
      case measure => simp [intOf]; omega
    · have hk2 : k = ss.length := by omega
      subst hk2
      rw [List.take_length] at hown
      have hcv := own_back hown
      clear hown
      go_wp2
      go_ret
      exact ⟨rfl, hbl⟩
end Go.Proofs.Ytjmmdlnhallkpaa.MacP
