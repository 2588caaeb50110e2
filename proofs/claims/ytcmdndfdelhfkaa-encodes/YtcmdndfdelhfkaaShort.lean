/- What the program's Short and the document's Short answer, for every kind: the same string and the same error; both make new memory alone. -/
import Derived.Test.YtcmdndfdelhfkaaOwn
namespace Go.Proofs.Ytcmdndfdelhfkaa
open Go.RowKit

/-- The body of P4 for a kind; empty where there is none. -/
def sbody (k : Int) : List UInt8 :=
  if k = 3 then [4, 5] else if k = 4 then [5] else if k = 5 then [4] else if k = 6 then [21]
  else if k = 7 then [16, 48] else if k = 8 then [16, 49] else if k = 9 then [16, 59] else []

set_option maxHeartbeats 400000 in
theorem shortBody_any (k : Int) (w : World) :
    Calls Try.prog 19 #[.int .i64 k] w fun e w' => e = .returned (.string ⟨(sbody k).toArray⟩) ∧ Below w.heap.size w w' := by
  have c1 := conv_lit1
  have c2 := conv_lit2
  go_enter Try.func19, Try.ntmps19
  go_wp2
  all_goals go_ret
  all_goals refine ⟨?_, by first | exact Below.refl _ _ | exact (Below.refl _ _).alloc (Nat.le_refl _) _⟩
  all_goals (simp only [beq_iff_eq, beq_eq_false_iff_ne, ne_eq] at *)
  all_goals simp [sbody, *]
  all_goals rfl

set_option maxHeartbeats 400000 in
theorem transmission_any (s : ByteArray) (w : World) (hs : s.size ≤ 140737488351232) :
    Calls Try.prog 20 #[.string s] w fun e w' => e = .returned (.string ⟨([22, 22] ++ s.data.toList ++ [255]).toArray⟩) ∧ Below w.heap.size w w' := by
  have hl := ownB_lit w w.heap.size #[.int .u8 22, .int .u8 22] [22, 22] rfl (Nat.le_refl _) (by decide)
  go_enter Try.func20, Try.ntmps20
  go_wp2_with (first | (at_builtin; refine app_str _ rfl (.tmp 5) (.tmp 6) rfl w.heap.size _ [22, 22] s rfl rfl hl (by simp; omega) w ((Below.refl _ _).alloc (Nat.le_refl _) _) (by simp) ?_; intro v1 W1 hown1 hbel1 hB1) | (at_builtin; refine app_one _ 255 255 (by rfl) rfl (.tmp 8) (.tmp 9) rfl w.heap.size _ _ _ 1 rfl rfl rfl hown1 (by simp; omega) w hbel1 hB1 ?_; intro v2 W2 hown2 hbel2 hB2; have c := conv_own _ _ _ _ hown2))
  go_ret
  exact ⟨rfl, by assumption⟩

/-- P4: the transmission of a kind, and the error. -/
def shortS (k : Int) : List UInt8 := if sbody k = [] then [] else [22, 22] ++ sbody k ++ [255]
def shortE (k : Int) : Int := if sbody k = [] then 5 else 0

theorem sbody_size (k : Int) : (sbody k).length ≤ 2 := by unfold sbody; (repeat' split) <;> simp

set_option maxHeartbeats 400000 in
theorem short_any (k : Int) (w : World) :
    Calls Try.prog 9 #[.int .i64 k] w fun e w' => e = .returned (.tuple #[.string ⟨(shortS k).toArray⟩, .int .i64 (shortE k)]) ∧ Below w.heap.size w w' := by
  have hz := sbody_size k
  cases hb : sbody k with
  | nil =>
    have e1 : shortS k = [] := by simp [shortS, hb]
    have e2 : shortE k = 5 := by simp [shortE, hb]
    rw [e1, e2]
    go_enter Try.func9, Try.ntmps9
    go_wp2_with (first | (go_at_call 19; refine (shortBody_any k _).mono ?_; rintro e w1 ⟨rfl, hb1⟩))
    go_ret2
    exact ⟨rfl, by assumption⟩
  | cons c l =>
    have e1 : shortS k = [22, 22] ++ (c :: l) ++ [255] := by simp [shortS, hb]
    have e2 : shortE k = 0 := by simp [shortE, hb]
    rw [e1, e2]
    rw [hb] at hz
    go_enter Try.func9, Try.ntmps9
    go_wp2_with (first | (go_at_call 19; refine (shortBody_any k _).mono ?_; rintro e w1 ⟨rfl, hb1⟩) | (go_at_call 20; refine (transmission_any _ _ ?_).mono ?_; (simp [ByteArray.size] at *; omega); rintro e w2 ⟨rfl, hb2⟩))
    go_ret2
    exact ⟨rfl, (by assumption : Below w.heap.size w _).trans (Below.mono (by assumption) (Below.size (by assumption)))⟩

set_option maxHeartbeats 1000000 in
theorem refShort_any (k : Int) (w : World) :
    Calls Try.prog 10 #[.int .i64 k] w fun e w' => e = .returned (.tuple #[.string ⟨(shortS k).toArray⟩, .int .i64 (shortE k)]) ∧ Below w.heap.size w w' := by
  rcases (show k < 3 ∨ 9 < k ∨ k = 3 ∨ k = 4 ∨ k = 5 ∨ k = 6 ∨ k = 7 ∨ k = 8 ∨ k = 9 from by omega) with h | h | rfl | rfl | rfl | rfl | rfl | rfl | rfl
  · have hb : sbody k = [] := by unfold sbody; repeat' (rw [if_neg (by omega)])
    have e1 : shortS k = [] := by simp [shortS, hb]
    have e2 : shortE k = 5 := by simp [shortE, hb]
    rw [e1, e2]; clear hb e1 e2
    go_enter Try.func10, Try.ntmps10
    go_wp2
    go_ret2
    exact ⟨rfl, Below.refl _ _⟩
  · have hb : sbody k = [] := by unfold sbody; repeat' (rw [if_neg (by omega)])
    have e1 : shortS k = [] := by simp [shortS, hb]
    have e2 : shortE k = 5 := by simp [shortE, hb]
    rw [e1, e2]; clear hb e1 e2
    go_enter Try.func10, Try.ntmps10
    go_wp2
    go_ret2
    exact ⟨rfl, Below.refl _ _⟩
  all_goals
    go_enter Try.func10, Try.ntmps10
    go_wp2
    go_ret2
    exact ⟨rfl, (Below.refl _ _).alloc (Nat.le_refl _) _⟩

end Go.Proofs.Ytcmdndfdelhfkaa
