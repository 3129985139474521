/-
  Contracts of frame's small functions: isSource, Right, typeBytes, checkLength, cut, addressOf, typeOf, join.
-/
import Derived.Test.YtlgfogllkoabpaaQMacA
import Derived.Laws.BytesArg
import Derived.Lib.SlBytesRow
import Derived.Lib.ConvBytes
import Derived.Lib.AppendStr
import Derived.Laws.StructEq
import Derived.Outline
import Derived.Deep.QuietTactic
import Derived.BigQuiet
import Derived.Laws.AppendOwn
import Derived.Deep.RegionWith
namespace Go.Proofs.Ytlgfogllkoabpaa.QMacP
open Go.RowKit
set_option linter.unusedVariables false
set_option maxRecDepth 100000

def rightB (a : Int) : Bool := decide (0 ≤ a) && decide (a < 281474976710656)
theorem rightB_yes {a : Int} (h : rightB a = true) : 0 ≤ a ∧ a < 281474976710656 := by simpa [rightB] using h
theorem rightB_no {a : Int} (h : rightB a = false) : a < 0 ∨ 281474976710656 ≤ a := by
  unfold rightB at h
  rw [Bool.and_eq_false_iff] at h
  simp only [decide_eq_false_iff_not] at h
  omega
theorem right_is (a : Int) (b : Bool) (h : rightB a = b) (w : World) :
    Calls TryQ.prog 70 #[.int .i64 a] w fun e w' => e = .returned (.bool b) ∧ w = w' := by
  cases b
  · exact right_no a w (rightB_no h)
  · exact right_yes a w (rightB_yes h).1 (rightB_yes h).2

/-- Who may send: an address of no group. -/
def srcB (a : Int) : Bool := rightB a && (classI a == 0)
set_option maxHeartbeats 400000 in
theorem isSource_any (a : Int) (w : World) :
    Calls TryQ.prog 46 #[.int .i64 a] w fun e w' => e = .returned (.bool (srcB a)) ∧ w = w' := by
  cases h : rightB a
  · have H := Lib.hid (rightB_no h)
    have hs : Hid (srcB a = false) := Lib.hid (by rw [srcB, h]; rfl)
    clear h
    go_enter TryQ.func46, Try.ntmps46
    go_wp2_with (go_at_call 73; refine (class_no _ _ H.out).mono ?_; rintro e w' ⟨rfl, rfl⟩)
    go_ret
    exact ⟨by rw [hs.out]; rfl, rfl⟩
  · obtain ⟨h0, h1⟩ := rightB_yes h
    have hs : Hid (srcB a = (classI a == 0)) := Lib.hid (by rw [srcB, h]; rfl)
    clear h
    go_enter TryQ.func46, Try.ntmps46
    go_wp2_with (go_at_call 73; refine (class_yes _ _ h0 h1).mono ?_; rintro e w' ⟨rfl, rfl⟩)
    go_ret
    exact ⟨by rw [hs.out]; rfl, rfl⟩
theorem isSource_is (a : Int) (b : Bool) (h : srcB a = b) (w : World) :
    Calls TryQ.prog 46 #[.int .i64 a] w fun e w' => e = .returned (.bool b) ∧ w = w' := by
  subst h; exact isSource_any a w

/-- A frame as a value. -/
abbrev fv (d s t : Int) (x : ByteArray) : Value := .agg #[.int .i64 d, .int .i64 s, .int .i64 t, .string x]
def okB (d s t : Int) (x : ByteArray) : Bool := rightB d && srcB s && decide (0 ≤ t) && decide (t ≤ 65535) && decide (x.size ≤ 100)

set_option maxHeartbeats 400000 in
theorem fright_any (d s t : Int) (x : ByteArray) (w : World) (hx : x.size ≤ maxLen) :
    Calls TryQ.prog 37 #[fv d s t x] w fun e w' => e = .returned (.bool (okB d s t x)) ∧ Below w.heap.size w w' := by
  unfold maxLen at hx
  cases h1 : rightB d
  · have hs : Hid (okB d s t x = false) := Lib.hid (by rw [okB, h1]; rfl)
    have H1 := Lib.hid h1
    clear h1
    go_enter TryQ.func37, Try.ntmps37
    go_wp2_with (go_at_call 70; refine (right_is _ _ H1.out _).mono ?_; rintro e w' ⟨rfl, rfl⟩)
    go_ret
    exact ⟨by rw [hs.out]; rfl, (Below.refl _ _).alloc (Nat.le_refl _) _⟩
  · have H1 := Lib.hid h1
    cases h2 : srcB s
    · have hs : Hid (okB d s t x = false) := Lib.hid (by rw [okB, h1, h2]; rfl)
      have H2 := Lib.hid h2
      clear h1 h2
      go_enter TryQ.func37, Try.ntmps37
      go_wp2_with (first | (go_at_call 70; refine (right_is _ _ H1.out _).mono ?_; rintro e w' ⟨rfl, rfl⟩) | (go_at_call 46; refine (isSource_is _ _ H2.out _).mono ?_; rintro e w' ⟨rfl, rfl⟩))
      go_ret
      exact ⟨by rw [hs.out]; rfl, (Below.refl _ _).alloc (Nat.le_refl _) _⟩
    · have H2 := Lib.hid h2
      by_cases h3 : 0 ≤ t
      · by_cases h4 : t ≤ 65535
        · have hs : Hid (okB d s t x = decide ((x.size : Int) ≤ 100)) := Lib.hid (by rw [okB, h1, h2]; simp [h3, h4]; omega)
          clear h1 h2
          go_enter TryQ.func37, Try.ntmps37
          go_wp2_with (first | (go_at_call 70; refine (right_is _ _ H1.out _).mono ?_; rintro e w' ⟨rfl, rfl⟩) | (go_at_call 46; refine (isSource_is _ _ H2.out _).mono ?_; rintro e w' ⟨rfl, rfl⟩))
          go_ret
          exact ⟨by rw [hs.out]; rfl, (Below.refl _ _).alloc (Nat.le_refl _) _⟩
        · have hs : Hid (okB d s t x = false) := Lib.hid (by rw [okB]; simp [h4])
          have h4' : decide (t ≤ 65535) = false := by simpa using h4
          clear h1 h2 h4
          go_enter TryQ.func37, Try.ntmps37
          go_wp2_with (first | (go_at_call 70; refine (right_is _ _ H1.out _).mono ?_; rintro e w' ⟨rfl, rfl⟩) | (go_at_call 46; refine (isSource_is _ _ H2.out _).mono ?_; rintro e w' ⟨rfl, rfl⟩))
          go_ret
          exact ⟨by rw [hs.out]; rfl, (Below.refl _ _).alloc (Nat.le_refl _) _⟩
      · have hs : Hid (okB d s t x = false) := Lib.hid (by rw [okB]; simp [h3])
        have h3' : decide (0 ≤ t) = false := by simpa using h3
        clear h1 h2 h3
        go_enter TryQ.func37, Try.ntmps37
        go_wp2_with (first | (go_at_call 70; refine (right_is _ _ H1.out _).mono ?_; rintro e w' ⟨rfl, rfl⟩) | (go_at_call 46; refine (isSource_is _ _ H2.out _).mono ?_; rintro e w' ⟨rfl, rfl⟩))
        go_ret
        exact ⟨by rw [hs.out]; rfl, (Below.refl _ _).alloc (Nat.le_refl _) _⟩

set_option maxHeartbeats 400000 in
theorem typeBytes_any (t : Int) (w : World) (h0 : 0 ≤ t) (h1 : t ≤ 65535) :
    Calls TryQ.prog 40 #[.int .i64 t] w fun e w' => e = .returned (.string (strOfNums [t / 256, t % 256])) ∧ Below w.heap.size w w' := by
  have hc := run_convert_bytes_arg (P := TryQ.prog) (w.alloc (.cells #[.int .u8 (t / 256), .int .u8 (t % 256)] 5)) 36 5 TryQ.underlying36 TryQ.underlying5 w.heap.size 0 2 2 [t / 256, t % 256] rfl (by
    intro i hi
    match i, hi with
    | 0, _ => go_simp
    | 1, _ => go_simp) 9 TryQ.underlying9
  have e1 : t / 256 % 256 = t / 256 := by omega
  go_enter TryQ.func40, Try.ntmps40
  go_wp2
  go_ret
  exact ⟨rfl, (Below.refl _ _).alloc (Nat.le_refl _) _⟩

set_option maxHeartbeats 400000 in
theorem flen_any (s : ByteArray) (w : World) (hs : s.size ≤ maxLen) :
    Calls TryQ.prog 42 #[.string s] w fun e w' => e = .returned (.int .i64 (if s.size < 14 then 7 else if 114 < s.size then 8 else 0)) ∧ w = w' := by
  unfold maxLen at hs
  by_cases h1 : s.size < 14
  · rw [if_pos h1]
    go_enter TryQ.func42, Try.ntmps42
    go_wp2
    go_ret
    exact ⟨rfl, rfl⟩
  · rw [if_neg h1]
    by_cases h2 : 114 < s.size
    · rw [if_pos h2]
      go_enter TryQ.func42, Try.ntmps42
      go_wp2
      go_ret
      exact ⟨rfl, rfl⟩
    · rw [if_neg h2]
      go_enter TryQ.func42, Try.ntmps42
      go_wp2
      go_ret
      exact ⟨rfl, rfl⟩

end Go.Proofs.Ytlgfogllkoabpaa.QMacP

/-
  Contracts of frame's cut, addressOf, typeOf, join.
-/
namespace Go.Proofs.Ytlgfogllkoabpaa.QMacP
open Go.RowKit
set_option linter.unusedVariables false
set_option maxRecDepth 100000

set_option maxHeartbeats 400000 in
theorem cut_at (b n cap l h : Nat) (w : World) (hl : l < h) (hc : h ≤ cap) (hm : cap ≤ maxLen) :
    Calls TryQ.prog 44 #[.slice (some ⟨b, 0, none⟩) n cap, .int .i64 (l : Int), .int .i64 (h : Int)] w fun e w' => e = .returned (.slice (some ⟨b, l, none⟩) (h - l) (h - l)) ∧ w = w' := by
  unfold maxLen at hm
  go_enter TryQ.func44, Try.ntmps44
  go_wp2
  go_ret
  exact ⟨rfl, rfl⟩
set_option maxHeartbeats 400000 in
theorem cut_end (b n cap h : Nat) (w : World) (hc : h ≤ cap) (hm : cap ≤ maxLen) :
    Calls TryQ.prog 44 #[.slice (some ⟨b, 0, none⟩) n cap, .int .i64 (h : Int), .int .i64 (h : Int)] w fun e w' => e = .returned (.slice (some ⟨b, 0, none⟩) 0 0) ∧ w = w' := by
  unfold maxLen at hm
  go_enter TryQ.func44, Try.ntmps44
  go_wp2
  go_ret
  exact ⟨rfl, rfl⟩

/-- The number of the six bytes at place j. -/
def adr (s : ByteArray) (j : Nat) : Int := ofTo (gb (s.extract j (j + 6))) 6
theorem fr_6 (s : ByteArray) (h : s.size = 6) : fr s = (ofTo (gb s) 6, 0) := by unfold fr; rw [if_neg (by omega), if_neg (by omega)]
theorem ext_size (s : ByteArray) (j k : Nat) (h : k ≤ s.size) : (s.extract j k).size = k - j := by rw [ByteArray.size_extract]; omega
theorem of_win (s : ByteArray) (j : Nat) (h : j + 6 ≤ s.size) (w : World) :
    Calls TryQ.prog 72 #[.string (s.extract j (j + 6))] w fun e w' => e = .returned (.tuple #[.int .i64 (adr s j), .int .i64 0]) ∧ w = w' :=
  (of_any (s.extract j (j + 6)) w (by rw [ext_size _ _ _ h]; unfold maxLen; omega)).mono fun e w' ⟨h1, h2⟩ => ⟨by rw [h1, fr_6 _ (by rw [ext_size _ _ _ h]; omega)]; rfl, h2⟩

set_option maxHeartbeats 400000 in
theorem addressOf_at (s : ByteArray) (b j c : Nat) (w : World) (h : j + 6 ≤ s.size) (hb : Lib.Bytes w b 0 s) :
    Calls TryQ.prog 43 #[.slice (some ⟨b, j, none⟩) 6 c] w fun e w' => e = .returned (.int .i64 (adr s j)) ∧ w = w' := by
  have hc := Lib.run_convert_window (P := TryQ.prog) w 36 5 9 TryQ.underlying36 TryQ.underlying5 TryQ.underlying9 b 0 s hb j 6 c h
  rw [Nat.zero_add] at hc
  clear hb
  go_enter TryQ.func43, Try.ntmps43
  go_wp2_with (go_at_call 72; refine (of_win s j h _).mono ?_; rintro e w' ⟨rfl, rfl⟩)
  go_ret
  exact ⟨rfl, rfl⟩

def typ (s : ByteArray) : Int := 256 * gb s 12 + gb s 13
set_option maxHeartbeats 400000 in
theorem typeOf_at (s : ByteArray) (b c : Nat) (w : World) (h : 14 ≤ s.size) (hb : Lib.Bytes w b 0 s) :
    Calls TryQ.prog 45 #[.slice (some ⟨b, 12, none⟩) 2 c] w fun e w' => e = .returned (.int .i64 (typ s)) ∧ Below w.heap.size w w' := by
  have c0 : w.cell? ⟨b, 12, none⟩ = some (.int .u8 (gb s 12)) := by rw [← get_gb s 12 (by omega)]; simpa using hb 12 (by omega)
  have c1 : w.cell? ⟨b, 13, none⟩ = some (.int .u8 (gb s 13)) := by rw [← get_gb s 13 (by omega)]; simpa using hb 13 (by omega)
  have g0 := gb_bd s 12
  have g1 := gb_bd s 13
  have hor := Lib.hid (or_256 (gb s 12) (gb s 13) g0.1 g1.1 g1.2 (by omega))
  have ht : Hid (typ s = 256 * gb s 12 + gb s 13) := Lib.hid rfl
  generalize gb s 12 = x at *
  generalize gb s 13 = y at *
  clear hb h
  go_enter TryQ.func45, Try.ntmps45
  go_wp2
  go_quiet (fail)
  go_wp2
  go_ret
  exact ⟨by rw [ht.out, ← hor.out]; rfl, ⟨rfl, rfl, rfl, Nat.le_refl _, fun _ _ => rfl⟩⟩
end Go.Proofs.Ytlgfogllkoabpaa.QMacP

/-
  Contract of frame's join.
-/
namespace Go.Proofs.Ytlgfogllkoabpaa.QMacP
open Go.RowKit
set_option linter.unusedVariables false
set_option maxRecDepth 100000

def cat (ss : List ByteArray) : List UInt8 := (ss.map (fun s => s.data.toList)).flatten
def u8s (l : List UInt8) : List Value := l.map fun b => Value.int .u8 b.toNat
theorem cat_step (ss : List ByteArray) (k : Nat) (h : k < ss.length) : cat (ss.take (k + 1)) = cat (ss.take k) ++ (ss.getD k ByteArray.empty).data.toList := by
  unfold cat
  rw [List.take_succ_eq_append_getElem h, List.map_append, List.flatten_append, List.getD_eq_getElem?_getD, List.getElem?_eq_getElem h]
  simp
theorem u8s_app (a b : List UInt8) : u8s (a ++ b) = u8s a ++ u8s b := by simp [u8s]
theorem u8s_str (s : ByteArray) : u8s s.data.toList = Lib.strCells s := rfl
theorem cat_take_le (ss : List ByteArray) (k : Nat) : (cat (ss.take k)).length ≤ (cat ss).length := by
  have h : cat ss = cat (ss.take k) ++ cat (ss.drop k) := by
    unfold cat
    rw [← List.flatten_append, ← List.map_append, List.take_append_drop]
  rw [h, List.length_append]; omega
theorem TryQ.infoU8 : (TryQ.prog.info? 5).map (fun i => (i.zero, i.size, i.bytes)) = some (some (.int .u8 0), 1, 1) := by kernel_rfl
theorem str_size (s : ByteArray) : s.data.toList.length = s.size := by simp
theorem own_back {w : World} {base : Nat} {v : Value} {l : List UInt8} (h : w.ownsRow base 5 1 v l.length (u8s l)) : (convert 36 9 v).run TryQ.prog w = .ok (.string ⟨l.toArray⟩) w := by
  rcases h.2 with ⟨rfl, h0⟩ | ⟨g, cap, cur, rfl, hbg, hg, _, _, _, htake⟩
  · have : l = [] := List.eq_nil_of_length_eq_zero h0
    subst this
    exact run_convert_bytes_nil w 36 5 TryQ.underlying36 TryQ.underlying5 0 0 9 TryQ.underlying9
  · exact run_convert_bytes_back w 36 9 5 ⟨g, 0, none⟩ cap l TryQ.underlying36 TryQ.underlying5 TryQ.underlying9 (fun j hj => by
      have := h.cells (g := g) rfl j (.int .u8 (l[j].toNat : Int)) (by simp [u8s, List.getElem?_eq_getElem hj])
      exact this)

set_option maxHeartbeats 1000000 in
theorem join_any (ss : List ByteArray) (b c : Nat) (w : World) (hb : b < w.heap.size) (hc : ∀ i, i < ss.length → w.cell? ⟨b, i, none⟩ = some (.string (ss.getD i ByteArray.empty)))
    (hs : (cat ss).length ≤ 1000) (hl : ss.length ≤ 1000) :
    Calls TryQ.prog 39 #[.slice (some ⟨b, 0, none⟩) ss.length c] w fun e w' => e = .returned (.string ⟨(cat ss).toArray⟩) ∧ Below w.heap.size w w' := by
  have HC := Lib.hid hc
  clear hc
  obtain ⟨i0, hi, hz0, hz1, hz2⟩ := info_parts TryQ.infoU8
  go_enter TryQ.func39, Try.ntmps39
  go_wp2
  go_loopw [3, 8] (fun v i wr => ∃ k : Nat, k ≤ ss.length ∧ i = .int .i64 k ∧ wr.ownsRow w.heap.size 5 1 v (cat (ss.take k)).length (u8s (cat (ss.take k))) ∧ Below w.heap.size w wr) (fun _ i _ => ss.length - (intOf i).toNat)
  case atStart => exact ⟨0, Nat.zero_le _, rfl, World.ownsRow_nil _ _ _ _, Below.refl _ _⟩
  case round =>
    obtain ⟨k, hk, rfl, hown, hbl⟩ := hrel
    by_cases hlt : k < ss.length
    · have hcell : wr.cell? ⟨b, k, none⟩ = some (.string (ss.getD k ByteArray.empty)) := by
        rw [hbl.cell (p := ⟨b, k, none⟩) hb]; exact HC.out k hlt
      have H1 := Lib.hid (cat_step ss k hlt)
      have h2 := cat_take_le ss (k + 1)
      rw [H1.out, List.length_append, str_size] at h2
      generalize ss.getD k ByteArray.empty = x at *
      have hsz := hbl.size
      generalize hy : cat (ss.take k) = y at *
      have HY := Lib.hid hy
      clear hy
      have e1 := Lib.hid (show y.length + x.size ≤ maxLen by unfold maxLen; omega)
      have e2 : y.length + x.size ≤ 140737488355328 := by omega
      go_wp2_with (at_builtin; refine Lib.wpList_append_own_string _ rfl _ _ 36 9 rfl w.heap.size 5 i0 TryQ.underlying36 TryQ.underlying9 hi hz0 hz1 hz2 _ _ _ rfl hown _ rfl e1.out e2 hsz ?_; intro v' w1 hown1 hgrow _)
      go_roundw
      case rel => exact ⟨k + 1, by omega, by go_num, by rw [H1.out, List.length_append, str_size, u8s_app, u8s_str]; exact hown1, hbl.grown hgrow hsz (fun g hg => (hown.lt g hg).1)⟩
      case measure => simp [intOf]; omega
    · have hk2 : k = ss.length := by omega
      subst hk2
      rw [List.take_length] at hown
      have hcv := own_back hown
      clear hown
      go_wp2
      go_ret
      exact ⟨rfl, hbl⟩
end Go.Proofs.Ytlgfogllkoabpaa.QMacP

/-
  Contracts of frame.Print and frame.Size.
-/
namespace Go.Proofs.Ytlgfogllkoabpaa.QMacP
open Go.RowKit
set_option linter.unusedVariables false
set_option maxRecDepth 100000

theorem bcell {W w1 : World} (hb : Below W.heap.size W w1) : (∀ b o, b < W.heap.size → w1.cell? ⟨b, o, none⟩ = W.cell? ⟨b, o, none⟩) ∧ (∀ b o, b < W.heap.size → w1.frozen? ⟨b, o, none⟩ = W.frozen? ⟨b, o, none⟩) :=
  ⟨fun b o h => hb.cell (p := ⟨b, o, none⟩) h, fun b o h => hb.frozen (p := ⟨b, o, none⟩) h⟩
def nums (x : ByteArray) : List Int := x.data.toList.map fun b => (b.toNat : Int)
theorem strOfNums_nums (x : ByteArray) : strOfNums (nums x) = x := by
  apply ByteArray.ext; apply Array.toList_inj.1
  rw [strOfNums_data, nums, List.map_map]
  conv => rhs; rw [← List.map_id x.data.toList]
  apply List.map_congr_left
  intro y _
  simp
/-- A frame's bytes. -/
def pBytes (d s t : Int) (x : ByteArray) : ByteArray := strOfNums (byteNums d ++ (byteNums s ++ ([t / 256, t % 256] ++ nums x)))
def four (d s t : Int) (x : ByteArray) : List ByteArray := [strOfNums (byteNums d), strOfNums (byteNums s), strOfNums [t / 256, t % 256], x]
theorem four_cat (d s t : Int) (x : ByteArray) : (⟨(cat (four d s t x)).toArray⟩ : ByteArray) = pBytes d s t x := by
  apply ByteArray.ext; apply Array.toList_inj.1
  have h : x.data.toList = (nums x).map fun n => UInt8.ofNat n.toNat := by rw [← strOfNums_data, strOfNums_nums]
  simp only [pBytes, strOfNums_data, cat, four, List.map_cons, List.map_nil, List.flatten_cons, List.flatten_nil, List.append_nil, List.map_append]
  rw [← h]
theorem four_len (d s t : Int) (x : ByteArray) : (cat (four d s t x)).length = 14 + x.size := by
  simp only [cat, four, List.map_cons, List.map_nil, List.flatten_cons, List.flatten_nil, List.append_nil, List.length_append, strOfNums_data, List.length_map, str_size]
  simp only [byteNums, List.length_cons, List.length_nil]; omega

theorem okB_yes {d s t : Int} {x : ByteArray} (h : okB d s t x = true) : rightB d = true ∧ srcB s = true ∧ 0 ≤ t ∧ t ≤ 65535 ∧ x.size ≤ 100 := by
  unfold okB at h
  simp only [Bool.and_eq_true, decide_eq_true_eq] at h
  obtain ⟨⟨⟨⟨a, b⟩, c⟩, d⟩, e⟩ := h
  exact ⟨a, b, c, d, e⟩
theorem srcB_right {s : Int} (h : srcB s = true) : rightB s = true := by unfold srcB at h; simp only [Bool.and_eq_true] at h; exact h.1
theorem fright_is (d s t : Int) (x : ByteArray) (b : Bool) (h : okB d s t x = b) (w : World) (hx : x.size ≤ maxLen) :
    Calls TryQ.prog 37 #[fv d s t x] w fun e w' => e = .returned (.bool b) ∧ Below w.heap.size w w' := by
  subst h; exact fright_any d s t x w hx
theorem join_four (d s t : Int) (x : ByteArray) (b c : Nat) (w : World) (hb : b < w.heap.size) (hx : x.size ≤ 100) (h0 : w.cell? ⟨b, 0, none⟩ = some (.string (strOfNums (byteNums d)))) (h1 : w.cell? ⟨b, 1, none⟩ = some (.string (strOfNums (byteNums s))))
    (h2 : w.cell? ⟨b, 2, none⟩ = some (.string (strOfNums [t / 256, t % 256]))) (h3 : w.cell? ⟨b, 3, none⟩ = some (.string x)) :
    Calls TryQ.prog 39 #[.slice (some ⟨b, 0, none⟩) 4 c] w fun e w' => e = .returned (.string (pBytes d s t x)) ∧ Below w.heap.size w w' :=
  (join_any (four d s t x) b c w hb (fun i hi => by
    match i, hi with
    | 0, _ => exact h0
    | 1, _ => exact h1
    | 2, _ => exact h2
    | 3, _ => exact h3
    | i + 4, hi => exact absurd hi (by simp [four])) (by rw [four_len]; omega) (by simp [four])).mono fun e w' ⟨g1, g2⟩ => ⟨by rw [g1, four_cat], g2⟩

set_option maxHeartbeats 1000000 in
theorem fprint_yes (d s t : Int) (x : ByteArray) (w : World) (h : okB d s t x = true) :
    Calls TryQ.prog 19 #[fv d s t x] w fun e w' => e = .returned (.tuple #[.string (pBytes d s t x), .int .i64 0]) ∧ Below w.heap.size w w' := by
  have H := Lib.hid h
  obtain ⟨hd, hs, t0, t1, hx⟩ := okB_yes h
  obtain ⟨d0, d1⟩ := rightB_yes hd
  obtain ⟨s0, s1⟩ := rightB_yes (srcB_right hs)
  have hm : x.size ≤ maxLen := by unfold maxLen; omega
  have HM := Lib.hid hm
  clear h hd hs hm
  go_enter TryQ.func19, Try.ntmps19
  go_wp2_with (first
    | (go_at_call 37; refine (fright_is _ _ _ _ _ H.out _ HM.out).mono ?_; rintro e w1 ⟨rfl, hb1⟩; obtain ⟨hc1, hf1⟩ := bcell hb1; have z1 : w.heap.size < w1.heap.size := by have := hb1.size; simp at this; omega)
    | (go_at_call 38; (with_reducible refine (bytes_yes _ _ (by assumption) (by assumption)).mono ?_); rintro e w2 ⟨rfl, hb2⟩; obtain ⟨hc2, hf2⟩ := bcell hb2; have z2 := Nat.lt_of_lt_of_le (by assumption : w.heap.size < _) hb2.size))
  have k2 : w2.cell? ⟨w.heap.size, 2, none⟩ = some (.int .i64 t) := by go_simp
  have k3 : w2.cell? ⟨w.heap.size, 3, none⟩ = some (.string x) := by go_simp
  have hb0 : Below w.heap.size w w2 := by
    refine Below.trans ?_ (hb2.mono (by omega))
    refine Below.trans ?_ (Below.mono (by assumption) (by omega))
    exact Below.trans ((Below.refl _ _).alloc (Nat.le_refl _) _) (hb1.mono (by simp))
  clear hc1 hf1 hc2 hf2 z1
  clear hb1 hb2
  have zz : w.heap.size < w2.heap.size := by assumption
  go_region_with (first
    | (go_at_call 40; (with_reducible refine (typeBytes_any _ _ t0 t1).mono ?_); rintro e w3 ⟨rfl, hb3⟩; have z3 : w.heap.size < w3.heap.size := Nat.lt_of_lt_of_le zz hb3.size; have k4 : w3.cell? ⟨w.heap.size, 3, none⟩ = some (.string x) := (hb3.cell (p := ⟨w.heap.size, 3, none⟩) zz).trans k3)
    | (go_at_call 39; (with_reducible refine (join_four d s t x _ _ _ (by simp) hx (by go_simp) (by go_simp) (by go_simp) (by go_simp)).mono ?_); rintro e w4 ⟨rfl, hb4⟩))
  all_goals
    go_wp2
    go_ret2
    refine ⟨rfl, ?_⟩
    refine Below.trans ?_ (Below.mono (by assumption) (by first | omega | (simp; try omega)))
    repeat (first | exact hb0 | apply Below.drew | refine Below.alloc ?_ (by first | omega | (simp; try omega)) _ | refine Below.trans ?_ (Below.mono (by assumption) (by first | omega | (simp; try omega))))

set_option maxHeartbeats 400000 in
theorem fprint_no (d s t : Int) (x : ByteArray) (w : World) (hm : x.size ≤ maxLen) (h : okB d s t x = false) :
    Calls TryQ.prog 19 #[fv d s t x] w fun e w' => e = .returned (.tuple #[.string ⟨#[]⟩, .int .i64 1]) ∧ Below w.heap.size w w' := by
  have H := Lib.hid h
  have HM := Lib.hid hm
  clear h hm
  go_enter TryQ.func19, Try.ntmps19
  go_wp2_with (go_at_call 37; refine (fright_is _ _ _ _ _ H.out _ HM.out).mono ?_; rintro e w1 ⟨rfl, hb1⟩)
  go_ret2
  exact ⟨rfl, Below.trans ((Below.refl _ _).alloc (Nat.le_refl _) _) (hb1.mono (by simp))⟩

theorem strOfNums_len (xs : List Int) : (strOfNums xs).size = xs.length := strOfNums_size xs
theorem pBytes_size (d s t : Int) (x : ByteArray) : (pBytes d s t x).size = 14 + x.size := by
  rw [pBytes, strOfNums_size]; simp [byteNums, nums]; omega

end Go.Proofs.Ytlgfogllkoabpaa.QMacP

/-
  Contracts of frame.Parse and frame.Kind.
-/
namespace Go.Proofs.Ytlgfogllkoabpaa.QMacP
open Go.RowKit
set_option linter.unusedVariables false
set_option maxRecDepth 100000

/-- A frame's data. -/
def dat (s : ByteArray) : ByteArray := s.extract 14 s.size
/-- What Parse tells: its error, and the frame's parts. -/
def pE (s : ByteArray) : Int := if s.size < 14 then 7 else if 114 < s.size then 8 else if srcB (adr s 6) then 0 else 10
def pD (s : ByteArray) : Int := if pE s = 0 then adr s 0 else 0
def pS (s : ByteArray) : Int := if pE s = 0 then adr s 6 else 0
def pT (s : ByteArray) : Int := if pE s = 0 then typ s else 0
def pX (s : ByteArray) : ByteArray := if pE s = 0 then dat s else ⟨#[]⟩
def pTup (s : ByteArray) : Value := .tuple #[fv (pD s) (pS s) (pT s) (pX s), .int .i64 (pE s)]
theorem pTup_bad (s : ByteArray) (n : Int) (h : pE s = n) (hn : n ≠ 0) : pTup s = .tuple #[fv 0 0 0 ⟨#[]⟩, .int .i64 n] := by
  subst h; simp only [pTup, pD, pS, pT, pX, if_neg hn]
theorem pTup_good (s : ByteArray) (h : pE s = 0) : pTup s = .tuple #[fv (adr s 0) (adr s 6) (typ s) (dat s), .int .i64 0] := by
  simp only [pTup, pD, pS, pT, pX, h, if_true]

theorem bytes_new (w : World) (s : ByteArray) : Lib.Bytes (Lib.bytesWorld w 5 s) w.heap.size 0 s := fun i hi => by
  rw [Nat.zero_add, Lib.bytesWorld_cell _ _ _ _ hi]
  have h' : i < s.data.toList.length := by simpa using hi
  rw [List.getD_eq_getElem?_getD, List.getElem?_eq_getElem h']
  simp; rfl
theorem bytes_below (w : World) (s : ByteArray) : Below w.heap.size w (Lib.bytesWorld w 5 s) :=
  ⟨rfl, rfl, rfl, by rw [Lib.bytesWorld_size]; omega, fun k hk => Lib.bytesWorld_at_old w _ s k hk⟩

theorem cut_data (s : ByteArray) (b cap : Nat) (w : World) (h : 14 ≤ s.size) (hc : s.size ≤ cap) (hm : cap ≤ maxLen) (hb : Lib.Bytes w b 0 s) :
    Calls TryQ.prog 44 #[.slice (some ⟨b, 0, none⟩) s.size cap, .int .i64 14, .int .i64 (s.size : Int)] w fun e w' =>
      ∃ v, e = .returned v ∧ (convert 36 9 v).run TryQ.prog w = .ok (.string (dat s)) w ∧ w = w' := by
  by_cases h1 : s.size = 14
  · have := cut_end b s.size cap s.size w hc hm
    have e14 : ((s.size : Nat) : Int) = 14 := by omega
    rw [e14] at this ⊢
    refine this.mono fun e w' ⟨h2, h3⟩ => ⟨_, h2, ?_, h3⟩
    have hw := Lib.run_convert_window (P := TryQ.prog) w 36 5 9 TryQ.underlying36 TryQ.underlying5 TryQ.underlying9 b 0 s hb 0 0 0 (by omega)
    rw [Nat.zero_add] at hw
    rw [hw, dat]
    congr 2
    apply ByteArray.ext; apply Array.toList_inj.1
    simp; omega
  · refine (cut_at b s.size cap 14 s.size w (by omega) hc hm).mono fun e w' ⟨h2, h3⟩ => ⟨_, h2, ?_, h3⟩
    have hw := Lib.run_convert_window (P := TryQ.prog) w 36 5 9 TryQ.underlying36 TryQ.underlying5 TryQ.underlying9 b 0 s hb 14 (s.size - 14) (s.size - 14) (by omega)
    rw [Nat.zero_add, show 14 + (s.size - 14) = s.size by omega] at hw
    exact hw
theorem cut_06 (b n cap : Nat) (w : World) (hc : 14 ≤ cap) (hm : cap ≤ maxLen) :
    Calls TryQ.prog 44 #[.slice (some ⟨b, 0, none⟩) n cap, .int .i64 0, .int .i64 6] w fun e w' => e = .returned (.slice (some ⟨b, 0, none⟩) 6 6) ∧ w = w' :=
  cut_at b n cap 0 6 w (by omega) (by omega) hm
theorem cut_612 (b n cap : Nat) (w : World) (hc : 14 ≤ cap) (hm : cap ≤ maxLen) :
    Calls TryQ.prog 44 #[.slice (some ⟨b, 0, none⟩) n cap, .int .i64 6, .int .i64 12] w fun e w' => e = .returned (.slice (some ⟨b, 6, none⟩) 6 6) ∧ w = w' :=
  cut_at b n cap 6 12 w (by omega) (by omega) hm
theorem cut_1214 (b n cap : Nat) (w : World) (hc : 14 ≤ cap) (hm : cap ≤ maxLen) :
    Calls TryQ.prog 44 #[.slice (some ⟨b, 0, none⟩) n cap, .int .i64 12, .int .i64 14] w fun e w' => e = .returned (.slice (some ⟨b, 12, none⟩) 2 2) ∧ w = w' :=
  cut_at b n cap 12 14 w (by omega) (by omega) hm
theorem bytes_on {w w' : World} {B b : Nat} {s : ByteArray} (h : Below B w w') (hb : b < B) (k : Lib.Bytes w b 0 s) : Lib.Bytes w' b 0 s := fun i hi => by
  rw [h.cell (p := ⟨b, 0 + i, none⟩) hb]; exact k i hi
theorem flen_is (s : ByteArray) (n : Int) (h : (if s.size < 14 then (7 : Int) else if 114 < s.size then 8 else 0) = n) (w : World) (hs : s.size ≤ maxLen) :
    Calls TryQ.prog 42 #[.string s] w fun e w' => e = .returned (.int .i64 n) ∧ w = w' := by
  subst h; exact flen_any s w hs

set_option maxHeartbeats 400000 in
theorem fparse_len (s : ByteArray) (n : Int) (hn : n ≠ 0) (h : (if s.size < 14 then (7 : Int) else if 114 < s.size then 8 else 0) = n) (w : World) (hs : s.size ≤ maxLen) :
    Calls TryQ.prog 22 #[.string s] w fun e w' => e = .returned (.tuple #[fv 0 0 0 ⟨#[]⟩, .int .i64 n]) ∧ Below w.heap.size w w' := by
  have H := Lib.hid h
  have HS := Lib.hid hs
  have hn' : (n != 0) = true := by simpa using hn
  clear h hn hs
  go_enter TryQ.func22, Try.ntmps22
  go_wp2_with (go_at_call 42; refine (flen_is _ n H.out _ HS.out).mono ?_; rintro e w' ⟨rfl, rfl⟩)
  refine bodyPost_ret (v := .tuple #[fv 0 0 0 ⟨#[]⟩, .int .i64 n]) (by simp [results, Try.results22, go_sem]) rfl ⟨rfl, ?_⟩
  repeat (first | exact Below.refl _ _ | refine Below.setCell ?_ (by simp) _ | refine Below.alloc ?_ (by simp) _)

set_option maxRecDepth 100000 in
set_option maxHeartbeats 2000000 in
theorem fparse_mid (s : ByteArray) (w : World) (h0 : 14 ≤ s.size) (h1 : s.size ≤ 114) :
    Calls TryQ.prog 22 #[.string s] w fun e w' => e = .returned (pTup s) ∧ Below w.heap.size w w' := by
  have hms : s.size ≤ maxLen := by unfold maxLen; omega
  have HS := Lib.hid hms
  have HL : Hid ((if s.size < 14 then (7 : Int) else if 114 < s.size then 8 else 0) = 0) := Lib.hid (by rw [if_neg (by omega), if_neg (by omega)])
  have hcv := fun (W : World) => Lib.run_convert_string_bytes (P := TryQ.prog) W 9 36 5 s TryQ.underlying9 TryQ.underlying36 TryQ.underlying5
  have hB := bytes_new (w.alloc (.cells #[.int .i64 0, .int .i64 0, .int .i64 0, .string ⟨#[]⟩] 43)) s
  have hBB := bytes_below (w.alloc (.cells #[.int .i64 0, .int .i64 0, .int .i64 0, .string ⟨#[]⟩] 43)) s
  have hz1 := Lib.bytesWorld_size (w.alloc (.cells #[.int .i64 0, .int .i64 0, .int .i64 0, .string ⟨#[]⟩] 43)) 5 s
  have hge := grownCap_ge (w.alloc (.cells #[.int .i64 0, .int .i64 0, .int .i64 0, .string ⟨#[]⟩] 43)) s.size 0 5
  have hle := grownCap_le_maxLen (w.alloc (.cells #[.int .i64 0, .int .i64 0, .int .i64 0, .string ⟨#[]⟩] 43)) s.size 0 5 hms
  have z1 : w.heap.size + 1 < (Lib.bytesWorld (w.alloc (.cells #[.int .i64 0, .int .i64 0, .int .i64 0, .string ⟨#[]⟩] 43)) 5 s).heap.size := by rw [hz1]; simp
  obtain ⟨k1, k2⟩ := bcell hBB
  have c0 := k1 w.heap.size 0 (by simp)
  have c1 := k1 w.heap.size 1 (by simp)
  have c2 := k1 w.heap.size 2 (by simp)
  have c3 := k1 w.heap.size 3 (by simp)
  have f0 := k2 w.heap.size 0 (by simp)
  have f1 := k2 w.heap.size 1 (by simp)
  have f2 := k2 w.heap.size 2 (by simp)
  have f3 := k2 w.heap.size 3 (by simp)
  have hb0 : Below w.heap.size w (Lib.bytesWorld (w.alloc (.cells #[.int .i64 0, .int .i64 0, .int .i64 0, .string ⟨#[]⟩] 43)) 5 s) :=
    Below.trans ((Below.refl _ _).alloc (Nat.le_refl _) _) (hBB.mono (by simp))
  clear hz1 k1 k2 hBB
  have e0 : (w.alloc (.cells #[.int .i64 0, .int .i64 0, .int .i64 0, .string ⟨#[]⟩] 43)).heap.size = w.heap.size + 1 := by simp
  rw [e0] at hB
  clear e0
  go_enter TryQ.func22, Try.ntmps22
  go_wp2_with (go_at_call 42; refine (flen_is _ 0 HL.out _ HS.out).mono ?_; rintro e w' ⟨rfl, rfl⟩)
  clear hcv
  generalize Lib.bytesWorld (w.alloc (.cells #[.int .i64 0, .int .i64 0, .int .i64 0, .string ⟨#[]⟩] 43)) 5 s = W1 at *
  generalize grownCap (w.alloc (.cells #[.int .i64 0, .int .i64 0, .int .i64 0, .string ⟨#[]⟩] 43)) s.size 0 5 = cap at *
  have hcap : 14 ≤ cap := by omega
  have z1' : w.heap.size < W1.heap.size := by omega
  have Z1 := Lib.hid z1
  clear z1
  have HB := Lib.hid hB
  have HLE := Lib.hid hle
  clear hB hle hms
  cases hsr : srcB (adr s 6)
  · have HR := Lib.hid hsr
    have hp : Hid (pTup s = .tuple #[fv 0 0 0 ⟨#[]⟩, .int .i64 10]) := Lib.hid (pTup_bad s 10 (by rw [pE, if_neg (by omega), if_neg (by omega), hsr]; rfl) (by decide))
    clear hsr
    go_wp2_with (first
      | (go_at_call 44; (with_reducible refine (cut_06 _ _ _ _ hcap HLE.out).mono ?_); rintro e w' ⟨rfl, rfl⟩)
      | (go_at_call 44; (with_reducible refine (cut_612 _ _ _ _ hcap HLE.out).mono ?_); rintro e w' ⟨rfl, rfl⟩)
      | (go_at_call 44; (with_reducible refine (cut_1214 _ _ _ _ hcap HLE.out).mono ?_); rintro e w' ⟨rfl, rfl⟩)
      | (go_at_call 44; (with_reducible refine (cut_data s _ _ _ h0 hge HLE.out HB2.out).mono ?_); rintro e w' ⟨v, rfl, ho, rfl⟩)
      | (go_at_call 43; (with_reducible refine (addressOf_at s _ _ _ _ (by omega) HB.out).mono ?_); rintro e w' ⟨rfl, rfl⟩)
      | (go_at_call 45; (with_reducible refine (typeOf_at s _ _ _ h0 HB.out).mono ?_); rintro e w2 ⟨rfl, hb2⟩; have HB2 := Lib.hid (bytes_on hb2 Z1.out HB.out); have z2 := Nat.lt_of_lt_of_le z1' hb2.size; have hb3 := hb0.trans (hb2.mono (Nat.le_of_lt z1')); obtain ⟨m1, m2⟩ := bcell hb2; have d0 := m1 w.heap.size 0 z1'; have d1 := m1 w.heap.size 1 z1'; have d2 := m1 w.heap.size 2 z1'; have d3 := m1 w.heap.size 3 z1'; have g0 := m2 w.heap.size 0 z1'; have g1 := m2 w.heap.size 1 z1'; have g2 := m2 w.heap.size 2 z1'; have g3 := m2 w.heap.size 3 z1'; clear m1 m2 z1')
      | (go_at_call 46; (with_reducible refine (isSource_is _ _ HR.out _).mono ?_); rintro e w' ⟨rfl, rfl⟩))
    refine bodyPost_ret (v := .tuple #[fv 0 0 0 ⟨#[]⟩, .int .i64 10]) (by simp [results, Try.results22, go_sem, z2, d0, d1, d2, d3, c0, c1, c2, c3]) rfl ⟨by rw [hp.out], ?_⟩
    repeat (first | exact hb3 | refine Below.setCell ?_ (by simp) _ | refine Below.alloc ?_ (by simp; try omega) _)
  · have HR := Lib.hid hsr
    have hp : Hid (pTup s = .tuple #[fv (adr s 0) (adr s 6) (typ s) (dat s), .int .i64 0]) := Lib.hid (pTup_good s (by rw [pE, if_neg (by omega), if_neg (by omega), hsr]; rfl))
    clear hsr
    go_wp2_with (first
      | (go_at_call 44; (with_reducible refine (cut_06 _ _ _ _ hcap HLE.out).mono ?_); rintro e w' ⟨rfl, rfl⟩)
      | (go_at_call 44; (with_reducible refine (cut_612 _ _ _ _ hcap HLE.out).mono ?_); rintro e w' ⟨rfl, rfl⟩)
      | (go_at_call 44; (with_reducible refine (cut_1214 _ _ _ _ hcap HLE.out).mono ?_); rintro e w' ⟨rfl, rfl⟩)
      | (go_at_call 44; (with_reducible refine (cut_data s _ _ _ h0 hge HLE.out HB2.out).mono ?_); rintro e w' ⟨v, rfl, ho, rfl⟩)
      | (go_at_call 43; (with_reducible refine (addressOf_at s _ _ _ _ (by omega) HB.out).mono ?_); rintro e w' ⟨rfl, rfl⟩)
      | (go_at_call 45; (with_reducible refine (typeOf_at s _ _ _ h0 HB.out).mono ?_); rintro e w2 ⟨rfl, hb2⟩; have HB2 := Lib.hid (bytes_on hb2 Z1.out HB.out); have z2 := Nat.lt_of_lt_of_le z1' hb2.size; have hb3 := hb0.trans (hb2.mono (Nat.le_of_lt z1')); obtain ⟨m1, m2⟩ := bcell hb2; have d0 := m1 w.heap.size 0 z1'; have d1 := m1 w.heap.size 1 z1'; have d2 := m1 w.heap.size 2 z1'; have d3 := m1 w.heap.size 3 z1'; have g0 := m2 w.heap.size 0 z1'; have g1 := m2 w.heap.size 1 z1'; have g2 := m2 w.heap.size 2 z1'; have g3 := m2 w.heap.size 3 z1'; clear m1 m2 z1')
      | (go_at_call 46; (with_reducible refine (isSource_is _ _ HR.out _).mono ?_); rintro e w' ⟨rfl, rfl⟩))
    refine bodyPost_ret (v := .tuple #[fv (adr s 0) (adr s 6) (typ s) (dat s), .int .i64 0]) (by simp [results, Try.results22, go_sem, z2, d0, d1, d2, d3, c0, c1, c2, c3]) rfl ⟨by rw [hp.out], ?_⟩
    repeat (first | exact hb3 | refine Below.setCell ?_ (by simp) _ | refine Below.alloc ?_ (by simp; try omega) _)

theorem fparse_any (s : ByteArray) (w : World) (hs : s.size ≤ maxLen) :
    Calls TryQ.prog 22 #[.string s] w fun e w' => e = .returned (pTup s) ∧ Below w.heap.size w w' := by
  by_cases h0 : s.size < 14
  · exact (fparse_len s 7 (by decide) (by rw [if_pos h0]) w hs).mono fun e w' ⟨h1, h2⟩ => ⟨by rw [h1, pTup_bad s 7 (by rw [pE, if_pos h0]) (by decide)], h2⟩
  · by_cases h1 : 114 < s.size
    · exact (fparse_len s 8 (by decide) (by rw [if_neg h0, if_pos h1]) w hs).mono fun e w' ⟨h2, h3⟩ => ⟨by rw [h2, pTup_bad s 8 (by rw [pE, if_neg h0, if_pos h1]) (by decide)], h3⟩
    · exact fparse_mid s w (by omega) (by omega)
end Go.Proofs.Ytlgfogllkoabpaa.QMacP

/-
  Plain facts of layer 2: what is printed is parsed as it was, and what is parsed may be, and is printed as it was.
-/
namespace Go.Proofs.Ytlgfogllkoabpaa.QMacP
open Go.RowKit
set_option linter.unusedVariables false
set_option maxRecDepth 100000

theorem bytes_inv (u : ByteArray) (h : u.size = 6) : strOfNums (byteNums (ofTo (gb u) 6)) = u := by
  refine str_ext u _ (by rw [byteNums_len, h]) fun k hk => ?_
  have b0 := gb_bd u 0; have b1 := gb_bd u 1; have b2 := gb_bd u 2; have b3 := gb_bd u 3; have b4 := gb_bd u 4; have b5 := gb_bd u 5
  have e : ofTo (gb u) 6 = 256 * (256 * (256 * (256 * (256 * (256 * 0 + gb u 0) + gb u 1) + gb u 2) + gb u 3) + gb u 4) + gb u 5 := rfl
  rw [e]
  obtain rfl | rfl | rfl | rfl | rfl | rfl : k = 0 ∨ k = 1 ∨ k = 2 ∨ k = 3 ∨ k = 4 ∨ k = 5 := by omega
  · show _ = bAt _ 0; rw [bAt0]; omega
  · show _ = bAt _ 1; rw [bAt1]; omega
  · show _ = bAt _ 2; rw [bAt2]; omega
  · show _ = bAt _ 3; rw [bAt3]; omega
  · show _ = bAt _ 4; rw [bAt4]; omega
  · show _ = bAt _ 5; rw [bAt5]; omega
theorem ofTo_bytes (a : Int) (h0 : 0 ≤ a) (h1 : a < 281474976710656) : ofTo (gb (strOfNums (byteNums a))) 6 = a := by
  have := fr_bytes a h0 h1
  rw [fr_6 _ (by rw [strOfNums_size]; rfl)] at this
  exact congrArg Prod.fst this
theorem adr_bd (s : ByteArray) (j : Nat) : 0 ≤ adr s j ∧ adr s j < 281474976710656 := by
  have := ofTo_bd (s.extract j (j + 6)) 6
  exact ⟨this.1, Int.lt_of_lt_of_le this.2 (by decide)⟩
theorem adr_right (s : ByteArray) (j : Nat) : rightB (adr s j) = true := by
  have := adr_bd s j
  simp [rightB, this.1, this.2]
theorem typ_bd (s : ByteArray) : 0 ≤ typ s ∧ typ s ≤ 65535 := by
  have b0 := gb_bd s 12; have b1 := gb_bd s 13
  unfold typ; omega

theorem gb_extract (s : ByteArray) (j k i : Nat) (hk : k ≤ s.size) (h : j + i < k) : gb (s.extract j k) i = gb s (j + i) := by
  unfold gb
  rw [Lib.extract_data, List.getD_eq_getElem?_getD, List.getElem?_take_of_lt (by omega), List.getElem?_drop, List.getD_eq_getElem?_getD]
theorem extract_nums (xs : List Int) (j n : Nat) (h : j + n ≤ xs.length) : (strOfNums xs).extract j (j + n) = strOfNums ((xs.drop j).take n) := by
  apply ByteArray.ext; apply Array.toList_inj.1
  rw [Lib.extract_data, strOfNums_data, strOfNums_data, List.map_take, List.map_drop, Nat.add_sub_cancel_left]

theorem pB_list (d s t : Int) (x : ByteArray) : pBytes d s t x = strOfNums (byteNums d ++ (byteNums s ++ ([t / 256, t % 256] ++ nums x))) := rfl
theorem nums_len (x : ByteArray) : (nums x).length = x.size := by simp [nums]
theorem adr_0 (d s t : Int) (x : ByteArray) (h0 : 0 ≤ d) (h1 : d < 281474976710656) : adr (pBytes d s t x) 0 = d := by
  unfold adr
  rw [pB_list, extract_nums _ 0 6 (by simp [byteNums])]
  show ofTo (gb (strOfNums (byteNums d))) 6 = d
  exact ofTo_bytes d h0 h1
theorem adr_6 (d s t : Int) (x : ByteArray) (h0 : 0 ≤ s) (h1 : s < 281474976710656) : adr (pBytes d s t x) 6 = s := by
  unfold adr
  rw [pB_list, extract_nums _ 6 6 (by simp [byteNums])]
  show ofTo (gb (strOfNums (byteNums s))) 6 = s
  exact ofTo_bytes s h0 h1
theorem gb_nums (xs : List Int) (k : Nat) (h : k < xs.length) (hb : 0 ≤ xs.getD k 0 ∧ xs.getD k 0 < 256) : gb (strOfNums xs) k = xs.getD k 0 := by
  unfold gb
  rw [List.getD_eq_getElem?_getD, List.getElem?_eq_getElem h] at hb
  rw [strOfNums_data, List.getD_eq_getElem?_getD, List.getElem?_map, List.getD_eq_getElem?_getD, List.getElem?_eq_getElem h]
  simp only [Option.map_some, Option.getD_some] at hb ⊢
  rw [UInt8.toNat_ofNat']
  omega
theorem typ_p (d s t : Int) (x : ByteArray) (h0 : 0 ≤ t) (h1 : t ≤ 65535) : typ (pBytes d s t x) = t := by
  unfold typ
  have l : (byteNums d ++ (byteNums s ++ ([t / 256, t % 256] ++ nums x))).length = 14 + x.size := by simp [byteNums, nums]; omega
  have e0 : gb (pBytes d s t x) 12 = t / 256 := by
    rw [pB_list, gb_nums _ 12 (by rw [l]; omega) (by show 0 ≤ t / 256 ∧ t / 256 < 256; omega)]; rfl
  have e1 : gb (pBytes d s t x) 13 = t % 256 := by
    rw [pB_list, gb_nums _ 13 (by rw [l]; omega) (by show 0 ≤ t % 256 ∧ t % 256 < 256; omega)]; rfl
  rw [e0, e1]; omega
theorem dat_p (d s t : Int) (x : ByteArray) : dat (pBytes d s t x) = x := by
  unfold dat
  have hs := pBytes_size d s t x
  have hx := extract_nums (byteNums d ++ (byteNums s ++ ([t / 256, t % 256] ++ nums x))) 14 x.size (by simp [byteNums, nums]; omega)
  rw [hs, pB_list, hx]
  show strOfNums ((nums x).take x.size) = x
  rw [List.take_of_length_le (by rw [nums_len]; exact Nat.le_refl _), strOfNums_nums]

theorem pE_p (d s t : Int) (x : ByteArray) (h : okB d s t x = true) : pE (pBytes d s t x) = 0 := by
  obtain ⟨hd, hs, t0, t1, hx⟩ := okB_yes h
  obtain ⟨s0, s1⟩ := rightB_yes (srcB_right hs)
  have hz := pBytes_size d s t x
  unfold pE
  rw [if_neg (by omega), if_neg (by omega), adr_6 d s t x s0 s1, hs]; rfl
/-- What is printed is parsed as it was. -/
theorem parse_print (d s t : Int) (x : ByteArray) (h : okB d s t x = true) : pTup (pBytes d s t x) = .tuple #[fv d s t x, .int .i64 0] := by
  obtain ⟨hd, hs, t0, t1, hx⟩ := okB_yes h
  obtain ⟨s0, s1⟩ := rightB_yes (srcB_right hs)
  obtain ⟨d0, d1⟩ := rightB_yes hd
  rw [pTup_good _ (pE_p d s t x h), adr_0 d s t x d0 d1, adr_6 d s t x s0 s1, typ_p d s t x t0 t1, dat_p]
theorem pE_zero (r : ByteArray) (h : pE r = 0) : 14 ≤ r.size ∧ r.size ≤ 114 ∧ srcB (adr r 6) = true := by
  unfold pE at h
  by_cases a : r.size < 14
  · rw [if_pos a] at h; cases h
  · rw [if_neg a] at h
    by_cases b : 114 < r.size
    · rw [if_pos b] at h; cases h
    · rw [if_neg b] at h
      cases k : srcB (adr r 6)
      · rw [k] at h; cases h
      · exact ⟨by omega, by omega, rfl⟩
/-- What is parsed may be. -/
theorem parse_ok (r : ByteArray) (h : pE r = 0) : okB (adr r 0) (adr r 6) (typ r) (dat r) = true := by
  obtain ⟨a, b, c⟩ := pE_zero r h
  have ht := typ_bd r
  have hd : (dat r).size = r.size - 14 := by unfold dat; rw [ByteArray.size_extract]; omega
  unfold okB
  rw [adr_right, c]
  simp [ht.1, ht.2]; omega
/-- What is parsed is printed as it was. -/
theorem print_parse (r : ByteArray) (h : pE r = 0) : pBytes (adr r 0) (adr r 6) (typ r) (dat r) = r := by
  obtain ⟨a, b, c⟩ := pE_zero r h
  have ht := typ_bd r
  have hd : (dat r).size = r.size - 14 := by unfold dat; rw [ByteArray.size_extract]; omega
  have e0 : strOfNums (byteNums (adr r 0)) = r.extract 0 6 := bytes_inv (r.extract 0 6) (by rw [ext_size _ _ _ (by omega)])
  have e6 : strOfNums (byteNums (adr r 6)) = r.extract 6 12 := bytes_inv (r.extract 6 12) (by rw [ext_size _ _ _ (by omega)])
  have et : strOfNums [typ r / 256, typ r % 256] = r.extract 12 14 := by
    refine str_ext _ _ (by rw [ext_size _ _ _ (by omega)]; rfl) fun k hk => ?_
    rw [ext_size _ _ _ (by omega)] at hk
    have b0 := gb_bd r 12; have b1 := gb_bd r 13
    rw [gb_extract _ _ _ _ (by omega) (by omega)]
    obtain rfl | rfl : k = 0 ∨ k = 1 := by omega
    · show gb r 12 = typ r / 256; unfold typ; omega
    · show gb r 13 = typ r % 256; unfold typ; omega
  rw [← four_cat]
  apply ByteArray.ext; apply Array.toList_inj.1
  simp only [cat, four, List.map_cons, List.map_nil, List.flatten_cons, List.flatten_nil, List.append_nil]
  rw [e0, e6, et, dat, Lib.extract_data, Lib.extract_data, Lib.extract_data, Lib.extract_data]
  have hl : r.data.toList.length = r.size := str_size r
  generalize r.data.toList = l at *
  show l.take 6 ++ ((l.drop 6).take 6 ++ ((l.drop 12).take 2 ++ (l.drop 14).take (r.size - 14))) = l
  rw [List.take_of_length_le (l := l.drop 14) (by rw [List.length_drop]; omega)]
  rw [show l.drop 14 = (l.drop 12).drop 2 by rw [List.drop_drop], List.take_append_drop, show l.drop 12 = (l.drop 6).drop 6 by rw [List.drop_drop], List.take_append_drop, List.take_append_drop]
end Go.Proofs.Ytlgfogllkoabpaa.QMacP

/-
  Contracts of the statements' few and alive, and of frame.Kind.
-/
namespace Go.Proofs.Ytlgfogllkoabpaa.QMacP
open Go.RowKit
set_option linter.unusedVariables false
set_option maxRecDepth 100000

def PB (w : World) (d s t : Int) (x : ByteArray) (w' : World) : Prop := w'.cell? ⟨w.heap.size, 0, none⟩ = some (.int .i64 d) ∧ w'.cell? ⟨w.heap.size, 1, none⟩ = some (.int .i64 s) ∧ w'.cell? ⟨w.heap.size, 2, none⟩ = some (.int .i64 t) ∧ w'.cell? ⟨w.heap.size, 3, none⟩ = some (.string x) ∧ w.heap.size < w'.heap.size ∧ Below w.heap.size w w'
theorem PB_step {w : World} {d s t : Int} {x : ByteArray} {w' w'' : World} (h : PB w d s t x w') (hb : Below w'.heap.size w' w'') : PB w d s t x w'' := by
  obtain ⟨a, b, c, e, f, g⟩ := h
  exact ⟨(hb.cell (p := ⟨w.heap.size, 0, none⟩) f).trans a, (hb.cell (p := ⟨w.heap.size, 1, none⟩) f).trans b, (hb.cell (p := ⟨w.heap.size, 2, none⟩) f).trans c, (hb.cell (p := ⟨w.heap.size, 3, none⟩) f).trans e, Nat.lt_of_lt_of_le f hb.size, g.trans (hb.mono (Nat.le_of_lt f))⟩
theorem PB_alloc {w : World} {d s t : Int} {x : ByteArray} {w' : World} (h : PB w d s t x w') (o : Obj) : PB w d s t x (w'.alloc o) := PB_step h ((Below.refl _ _).alloc (Nat.le_refl _) _)
theorem PB_drew {w : World} {d s t : Int} {x : ByteArray} {w' : World} (h : PB w d s t x w') : PB w d s t x w'.drew := PB_step h (Below.refl _ _).drew
theorem PB_box (w : World) (d s t : Int) (x : ByteArray) : PB w d s t x (w.alloc (.cells #[.int .i64 d, .int .i64 s, .int .i64 t, .string x] 43)) :=
  ⟨by go_simp, by go_simp, by go_simp, by go_simp, by simp, (Below.refl _ _).alloc (Nat.le_refl _) _⟩
/-- A text's first n bytes. -/
def cutS (x : ByteArray) (n : Nat) : ByteArray := x.extract 0 (min (x.size : Int) (n : Int)).toNat
theorem cutS_if (x : ByteArray) (n : Nat) : cutS x n = x.extract 0 (if (n : Int) < (x.size : Int) then (n : Int) else (x.size : Int)).toNat := by
  unfold cutS
  congr 2
  split <;> omega
theorem cutS_size (x : ByteArray) (n : Nat) : (cutS x n).size ≤ n := by
  unfold cutS
  rw [ByteArray.size_extract]
  omega

theorem class_adr (s : ByteArray) (j : Nat) (w : World) :
    Calls TryQ.prog 73 #[.int .i64 (adr s j)] w fun e w' => e = .returned (.tuple #[.int .i64 (classI (adr s j)), .int .i64 0]) ∧ w = w' :=
  class_yes _ w (adr_bd s j).1 (adr_bd s j).2

theorem fparse_good (r : ByteArray) (w : World) (hr : r.size ≤ maxLen) (h : pE r = 0) :
    Calls TryQ.prog 22 #[.string r] w fun e w' => e = .returned (.tuple #[fv (adr r 0) (adr r 6) (typ r) (dat r), .int .i64 0]) ∧ Below w.heap.size w w' :=
  (fparse_any r w hr).mono fun e w' ⟨h1, h2⟩ => ⟨by rw [h1, pTup_good r h], h2⟩
theorem fparse_bad (r : ByteArray) (n : Int) (w : World) (hr : r.size ≤ maxLen) (h : pE r = n) (hn : n ≠ 0) :
    Calls TryQ.prog 22 #[.string r] w fun e w' => e = .returned (.tuple #[fv 0 0 0 ⟨#[]⟩, .int .i64 n]) ∧ Below w.heap.size w w' :=
  (fparse_any r w hr).mono fun e w' ⟨h1, h2⟩ => ⟨by rw [h1, pTup_bad r n h hn], h2⟩

theorem fprint_back (r : ByteArray) (w : World) (h : pE r = 0) :
    Calls TryQ.prog 19 #[fv (adr r 0) (adr r 6) (typ r) (dat r)] w fun e w' => e = .returned (.tuple #[.string r, .int .i64 0]) ∧ Below w.heap.size w w' :=
  (fprint_yes _ _ _ _ w (parse_ok r h)).mono fun e w' ⟨h1, h2⟩ => ⟨by rw [h1, print_parse r h], h2⟩
theorem class_src (r : ByteArray) (w : World) (h : pE r = 0) :
    Calls TryQ.prog 73 #[.int .i64 (adr r 6)] w fun e w' => e = .returned (.tuple #[.int .i64 0, .int .i64 0]) ∧ w = w' :=
  (class_adr r 6 w).mono fun e w' ⟨h1, h2⟩ => ⟨by
    have := (pE_zero r h).2.2
    unfold srcB at this
    simp only [Bool.and_eq_true, beq_iff_eq] at this
    rw [h1, this.2], h2⟩
theorem fright_back (r : ByteArray) (w : World) (h : pE r = 0) :
    Calls TryQ.prog 37 #[fv (adr r 0) (adr r 6) (typ r) (dat r)] w fun e w' => e = .returned (.bool true) ∧ Below w.heap.size w w' := by
  have ho := parse_ok r h
  exact fright_is _ _ _ _ true ho w (by have := (okB_yes ho).2.2.2.2; unfold maxLen; omega)
theorem fparse_print (d s t : Int) (x : ByteArray) (w : World) (h : okB d s t x = true) :
    Calls TryQ.prog 22 #[.string (pBytes d s t x)] w fun e w' => e = .returned (.tuple #[fv d s t x, .int .i64 0]) ∧ Below w.heap.size w w' :=
  (fparse_any _ w (by have := (okB_yes h).2.2.2.2; rw [pBytes_size]; unfold maxLen; omega)).mono fun e w' ⟨h1, h2⟩ => ⟨by rw [h1, parse_print d s t x h], h2⟩
end Go.Proofs.Ytlgfogllkoabpaa.QMacP
