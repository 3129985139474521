/-
  Contracts of vec.Right, firstApart, compare.
-/
import Derived.Test.YtplgaenfcaphnaaVecA
import Derived.Deep.QuietTactic
import Derived.Lib.QuietBelow
namespace Go.Proofs.Ytplgaenfcaphnaa.VecP
open Go.RowKit
set_option linter.unusedVariables false
set_option maxRecDepth 100000

theorem bcell {W w1 : World} {B : Nat} (hb : Below B W w1) : (∀ b o, b < B → w1.cell? ⟨b, o, none⟩ = W.cell? ⟨b, o, none⟩) ∧ (∀ b o, b < B → w1.frozen? ⟨b, o, none⟩ = W.frozen? ⟨b, o, none⟩) :=
  ⟨fun b o h => hb.cell (p := ⟨b, o, none⟩) h, fun b o h => hb.frozen (p := ⟨b, o, none⟩) h⟩

def okV (r c b p : Int) : Bool := inB r 65535 && inB c 2147483647 && inB b 65535 && inB p 7
def okV1 (r c b p : Int) : Int → Bool
  | 0 => true
  | 1 => inB r 65535
  | 2 => inB r 65535 && inB c 2147483647
  | 3 => inB r 65535 && inB c 2147483647 && inB b 65535
  | _ => okV r c b p

theorem meth_of0 (w : World) : (method 268 147 (.agg #[]) "footway/vec.of").run Try.prog w = .ok (114, .agg #[]) w := by kernel_rfl
theorem meth_most0 (w : World) : (method 268 147 (.agg #[]) "footway/vec.most").run Try.prog w = .ok (113, .agg #[]) w := by kernel_rfl
theorem meth_of1 (w : World) : (method 268 148 (.agg #[]) "footway/vec.of").run Try.prog w = .ok (116, .agg #[]) w := by kernel_rfl
theorem meth_most1 (w : World) : (method 268 148 (.agg #[]) "footway/vec.most").run Try.prog w = .ok (115, .agg #[]) w := by kernel_rfl
theorem meth_of2 (w : World) : (method 268 149 (.agg #[]) "footway/vec.of").run Try.prog w = .ok (118, .agg #[]) w := by kernel_rfl
theorem meth_most2 (w : World) : (method 268 149 (.agg #[]) "footway/vec.most").run Try.prog w = .ok (117, .agg #[]) w := by kernel_rfl
theorem meth_of3 (w : World) : (method 268 150 (.agg #[]) "footway/vec.of").run Try.prog w = .ok (120, .agg #[]) w := by kernel_rfl
theorem meth_most3 (w : World) : (method 268 150 (.agg #[]) "footway/vec.most").run Try.prog w = .ok (119, .agg #[]) w := by kernel_rfl

theorem bt {w a b : World} (h1 : Below w.heap.size w a) (h2 : Below a.heap.size a b) : Below w.heap.size w b := h1.trans (h2.mono h1.size)

theorem growB {B : Nat} {W a b c : World} (h : Below B W a) (hB : B ≤ W.heap.size) (h1 : Below a.heap.size a b) (h2 : Below b.heap.size b c) : Below B W c :=
  h.trans ((bt h1 h2).mono (by have := h.size; omega))
theorem no0 (r c b p : Int) (h : inB r 65535 = false) : Ending.returned (.bool false) = .returned (.bool (okV r c b p)) := by rw [okV, h]; rfl
theorem no1 (r c b p : Int) (h : inB c 2147483647 = false) : Ending.returned (.bool false) = .returned (.bool (okV r c b p)) := by rw [okV, h]; simp
theorem no2 (r c b p : Int) (h : inB b 65535 = false) : Ending.returned (.bool false) = .returned (.bool (okV r c b p)) := by rw [okV, h]; simp
theorem no3 (r c b p : Int) (h : inB p 7 = false) : Ending.returned (.bool false) = .returned (.bool (okV r c b p)) := by rw [okV, h]; simp
theorem yes0 (r c b p : Int) (h : okV1 r c b p 0 = true) (h1 : inB r 65535 = true) : okV1 r c b p 1 = true := h1
theorem yes1 (r c b p : Int) (h : okV1 r c b p 1 = true) (h1 : inB c 2147483647 = true) : okV1 r c b p 2 = true := by
  have h : inB r 65535 = true := h
  show (_ && _) = true; rw [h, h1]; rfl
theorem yes2 (r c b p : Int) (h : okV1 r c b p 2 = true) (h1 : inB b 65535 = true) : okV1 r c b p 3 = true := by
  have h : (inB r 65535 && inB c 2147483647) = true := h
  show (_ && _) = true; rw [h, h1]; rfl
theorem yes3 (r c b p : Int) (h : okV1 r c b p 3 = true) (h1 : inB p 7 = true) : okV1 r c b p 4 = true := by
  have h : (inB r 65535 && inB c 2147483647 && inB b 65535) = true := h
  show (_ && _) = true; rw [h, h1]; rfl
theorem right_below (w : World) (a b : Obj) (wr w1 w2 : World) (hb : Below (w.heap.size + 2) ((w.alloc a).alloc b) wr) (hb1 : Below wr.heap.size wr w1) (hb2 : Below w1.heap.size w1 w2) : Below w.heap.size w w2 :=
  (((Below.refl _ _).alloc (Nat.le_refl _) _).alloc (by simp) _).trans ((hb.trans ((bt hb1 hb2).mono (by have := hb.size; simpa using this))).mono (by omega))
set_option maxHeartbeats 1000000 in
theorem right_any (r c b p : Int) (w : World) :
    Calls Try.prog 78 #[vv r c b p] w fun e w' => e = .returned (.bool (okV r c b p)) ∧ Below w.heap.size w w' := by
  have mof0 := meth_of0
  have mmost0 := meth_most0
  have mof1 := meth_of1
  have mmost1 := meth_most1
  have mof2 := meth_of2
  have mmost2 := meth_most2
  have mof3 := meth_of3
  have mmost3 := meth_most3
  go_enter Try.func78, Try.ntmps78
  go_wp2_with (go_at_call 85; refine (parts_any _).mono ?_; rintro e w' ⟨rfl, rfl⟩)
  go_loopw [7] (fun i wr => ∃ k : Nat, k ≤ 4 ∧ i = .int .i64 k ∧ okV1 r c b p k = true ∧ Below (w.heap.size + 2) ((w.alloc (.cells #[.int .i64 r, .int .i64 c, .int .i64 b, .int .i64 p] 103)).alloc partsObj) wr) (fun i _ => 4 - (intOf i).toNat)
  case atStart => exact ⟨0, by omega, rfl, rfl, Below.refl _ _⟩
  case round =>
    obtain ⟨k, hk, rfl, hok, hb⟩ := hrel
    have hok := Lib.hid hok
    obtain ⟨hc, hf⟩ := bcell hb
    match k, hk with
    | 0, _ =>
      cases h : inB r 65535
      all_goals
        have H := Lib.hid h
        clear h
        go_wp2_with (first | (go_at_call 114; refine (of0 _ _ _ _ _).mono ?_; rintro e w1 ⟨rfl, hb1⟩) | (go_at_call 113; refine (most0 _).mono ?_; rintro e w2 ⟨rfl, hb2⟩) | (go_at_call 79; refine (within_is _ _ _ H.out _).mono ?_; rintro e w3 ⟨rfl, rfl⟩))
      · go_ret
        exact ⟨no0 _ _ _ _ H.out, right_below w _ _ wr w1 w2 hb hb1 hb2⟩
      · go_roundw
        case rel => exact ⟨0+1, by omega, rfl, yes0 _ _ _ _ hok.out H.out, growB hb (by simp) hb1 hb2⟩
        case measure => simp [intOf]
    | 1, _ =>
      cases h : inB c 2147483647
      all_goals
        have H := Lib.hid h
        clear h
        go_wp2_with (first | (go_at_call 116; refine (of1 _ _ _ _ _).mono ?_; rintro e w1 ⟨rfl, hb1⟩) | (go_at_call 115; refine (most1 _).mono ?_; rintro e w2 ⟨rfl, hb2⟩) | (go_at_call 79; refine (within_is _ _ _ H.out _).mono ?_; rintro e w3 ⟨rfl, rfl⟩))
      · go_ret
        exact ⟨no1 _ _ _ _ H.out, right_below w _ _ wr w1 w2 hb hb1 hb2⟩
      · go_roundw
        case rel => exact ⟨1+1, by omega, rfl, yes1 _ _ _ _ hok.out H.out, growB hb (by simp) hb1 hb2⟩
        case measure => simp [intOf]
    | 2, _ =>
      cases h : inB b 65535
      all_goals
        have H := Lib.hid h
        clear h
        go_wp2_with (first | (go_at_call 118; refine (of2 _ _ _ _ _).mono ?_; rintro e w1 ⟨rfl, hb1⟩) | (go_at_call 117; refine (most2 _).mono ?_; rintro e w2 ⟨rfl, hb2⟩) | (go_at_call 79; refine (within_is _ _ _ H.out _).mono ?_; rintro e w3 ⟨rfl, rfl⟩))
      · go_ret
        exact ⟨no2 _ _ _ _ H.out, right_below w _ _ wr w1 w2 hb hb1 hb2⟩
      · go_roundw
        case rel => exact ⟨2+1, by omega, rfl, yes2 _ _ _ _ hok.out H.out, growB hb (by simp) hb1 hb2⟩
        case measure => simp [intOf]
    | 3, _ =>
      cases h : inB p 7
      all_goals
        have H := Lib.hid h
        clear h
        go_wp2_with (first | (go_at_call 120; refine (of3 _ _ _ _ _).mono ?_; rintro e w1 ⟨rfl, hb1⟩) | (go_at_call 119; refine (most3 _).mono ?_; rintro e w2 ⟨rfl, hb2⟩) | (go_at_call 79; refine (within_is _ _ _ H.out _).mono ?_; rintro e w3 ⟨rfl, rfl⟩))
      · go_ret
        exact ⟨no3 _ _ _ _ H.out, right_below w _ _ wr w1 w2 hb hb1 hb2⟩
      · go_roundw
        case rel => exact ⟨3+1, by omega, rfl, yes3 _ _ _ _ hok.out H.out, growB hb (by simp) hb1 hb2⟩
        case measure => simp [intOf]
    | 4, _ =>
      go_wp2
      go_ret
      exact ⟨by rw [show okV r c b p = true from hok.out]; rfl, ((Below.refl _ _).alloc (Nat.le_refl _) _).alloc (by simp) _ |>.trans (hb.mono (by omega))⟩
end Go.Proofs.Ytplgaenfcaphnaa.VecP
