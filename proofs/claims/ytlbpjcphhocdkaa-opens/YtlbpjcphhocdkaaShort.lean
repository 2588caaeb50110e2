/- What the program's Short and the document's Short answer, for every kind: the same string and the same error; both make new memory alone. -/
import Derived.Test.YtlbpjcphhocdkaaCnv
import Derived.Test.YtlbpjcphhocdkaaAns
namespace Go.Proofs.Ytlbpjcphhocdkaa
open Go.RowKit

set_option maxHeartbeats 400000 in
theorem shortBody_any (k : Int) (w : World) :
    Calls Try.prog 37 #[.int .i64 k] w fun e w' => e = .returned (.string ⟨(sbody k).toArray⟩) ∧ Below w.heap.size w w' := by
  have c1 := conv_lit1
  have c2 := conv_lit2
  go_enter Try.func37, Try.ntmps37
  go_wp2
  all_goals go_ret
  all_goals refine ⟨?_, by first | exact Below.refl _ _ | exact (Below.refl _ _).alloc (Nat.le_refl _) _⟩
  all_goals (simp only [beq_iff_eq, beq_eq_false_iff_ne, ne_eq] at *)
  all_goals simp [sbody, *]
  all_goals rfl

set_option maxHeartbeats 400000 in
theorem padded_any (s : ByteArray) (w : World) (hs : s.size ≤ 140737488352000) :
    Calls Try.prog 57 #[.string s] w fun e w' => e = .returned (.string ⟨(s.data.toList ++ [255]).toArray⟩) ∧ Below w.heap.size w w' := by
  have hl := cnv_new w w.heap.size s (Nat.le_refl _)
  have kc := cnv_run w s
  have hb0 := cnv_below w s
  have hz := Go.Lib.bytesWorld_size w 5 s
  have hz2 : s.data.toList.length = s.size := by simp
  generalize Go.Lib.bytesWorld w 5 s = W0 at *
  generalize grownCap w s.size 0 5 = cp at *
  go_enter Try.func57, Try.ntmps57
  go_wp2_with (first | (at_builtin; refine app_cnv _ 255 255 (by rfl) rfl (.tmp 6) (.tmp 7) rfl w.heap.size _ _ _ 1 rfl rfl (by first | rfl | omega) hl (by omega) w hb0 (by omega) ?_; intro v2 W2 hcv hbel2))
  go_ret
  exact ⟨rfl, by assumption⟩

theorem pad_size (s : ByteArray) : (⟨(s.data.toList ++ [255]).toArray⟩ : ByteArray).size = s.size + 1 := by
  show (s.data.toList ++ [255]).toArray.size = s.data.size + 1
  rw [List.size_toArray, List.length_append, Array.length_toList]
  rfl
theorem pad_wrap (s : ByteArray) : [22, 22] ++ (⟨(s.data.toList ++ [255]).toArray⟩ : ByteArray).data.toList = [22, 22] ++ s.data.toList ++ [255] := by simp

set_option maxHeartbeats 400000 in
theorem transmission_any (s : ByteArray) (w : World) (hs : s.size ≤ 140737488352000) :
    Calls Try.prog 38 #[.string s] w fun e w' => e = .returned (.string ⟨([22, 22] ++ s.data.toList ++ [255]).toArray⟩) ∧ Below w.heap.size w w' := by
  have hl := ownB_lit w w.heap.size #[.int .u8 22, .int .u8 22] [22, 22] rfl (Nat.le_refl _) (by decide)
  have hb0 : Below w.heap.size w (w.alloc (.cells #[.int .u8 22, .int .u8 22] 5)) := (Below.refl _ _).alloc (Nat.le_refl _) _
  have HP := hide (pad_wrap s)
  have hz2 : (⟨(s.data.toList ++ [255]).toArray⟩ : ByteArray).size = s.size + 1 := pad_size s
  rw [← HP.out]
  generalize hr : (⟨(s.data.toList ++ [255]).toArray⟩ : ByteArray) = r at *
  have HR := hide hr
  clear hr
  go_enter Try.func38, Try.ntmps38
  go_wp2_with (first | (go_at_call 57; refine (padded_any s _ hs).mono ?_; rintro e w1 ⟨rfl, hb1⟩; rw [HR.out]; have hl1 := OwnB.below hl hb1 (by simp)) | (at_builtin; refine app_str _ rfl (.tmp 8) (.tmp 9) rfl w.heap.size _ [22, 22] r rfl rfl hl1 (by simp; omega) w (below_step hb0 hb1) (by have := hb1.size; simp at this; omega) ?_; intro v2 W2 hown2 hbel2 hB2; have c := conv_own _ _ _ _ hown2))
  go_ret
  exact ⟨rfl, by assumption⟩

/-- P4: the transmission of a kind, and the error. -/
def shortS (k : Int) : List UInt8 := if sbody k = [] then [] else [22, 22] ++ sbody k ++ [255]
def shortE (k : Int) : Int := if sbody k = [] then 5 else 0

theorem sbody_size (k : Int) : (sbody k).length ≤ 2 := by unfold sbody; (repeat' split) <;> simp

set_option maxHeartbeats 400000 in
theorem short_any (k : Int) (w : World) :
    Calls Try.prog 14 #[.int .i64 k] w fun e w' => e = .returned (.tuple #[.string ⟨(shortS k).toArray⟩, .int .i64 (shortE k)]) ∧ Below w.heap.size w w' := by
  have hz := sbody_size k
  cases hb : sbody k with
  | nil =>
    have e1 : shortS k = [] := by simp [shortS, hb]
    have e2 : shortE k = 5 := by simp [shortE, hb]
    rw [e1, e2]
    go_enter Try.func14, Try.ntmps14
    go_wp2_with (first | (go_at_call 37; refine (shortBody_any k _).mono ?_; rintro e w1 ⟨rfl, hb1⟩))
    go_ret2
    exact ⟨rfl, by assumption⟩
  | cons c l =>
    have e1 : shortS k = [22, 22] ++ (c :: l) ++ [255] := by simp [shortS, hb]
    have e2 : shortE k = 0 := by simp [shortE, hb]
    rw [e1, e2]
    rw [hb] at hz
    go_enter Try.func14, Try.ntmps14
    go_wp2_with (first | (go_at_call 37; refine (shortBody_any k _).mono ?_; rintro e w1 ⟨rfl, hb1⟩) | (go_at_call 38; refine (transmission_any _ _ ?_).mono ?_; (simp [ByteArray.size] at *; omega); rintro e w2 ⟨rfl, hb2⟩))
    go_ret2
    exact ⟨rfl, (by assumption : Below w.heap.size w _).trans (Below.mono (by assumption) (Below.size (by assumption)))⟩

end Go.Proofs.Ytlbpjcphhocdkaa
