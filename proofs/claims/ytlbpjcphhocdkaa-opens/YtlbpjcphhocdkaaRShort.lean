/- The document's Short. -/
import Derived.Test.YtlbpjcphhocdkaaShort
namespace Go.Proofs.Ytlbpjcphhocdkaa
open Go.RowKit

set_option maxHeartbeats 1000000 in
theorem refShort_any (k : Int) (w : World) :
    Calls Try.prog 15 #[.int .i64 k] w fun e w' => e = .returned (.tuple #[.string ⟨(shortS k).toArray⟩, .int .i64 (shortE k)]) ∧ Below w.heap.size w w' := by
  rcases (show k < 3 ∨ 9 < k ∨ k = 3 ∨ k = 4 ∨ k = 5 ∨ k = 6 ∨ k = 7 ∨ k = 8 ∨ k = 9 from by omega) with h | h | rfl | rfl | rfl | rfl | rfl | rfl | rfl
  · have hb : sbody k = [] := by unfold sbody; repeat' (rw [if_neg (by omega)])
    have e1 : shortS k = [] := by simp [shortS, hb]
    have e2 : shortE k = 5 := by simp [shortE, hb]
    rw [e1, e2]; clear hb e1 e2
    go_enter Try.func15, Try.ntmps15
    go_wp2
    go_ret2
    exact ⟨rfl, Below.refl _ _⟩
  · have hb : sbody k = [] := by unfold sbody; repeat' (rw [if_neg (by omega)])
    have e1 : shortS k = [] := by simp [shortS, hb]
    have e2 : shortE k = 5 := by simp [shortE, hb]
    rw [e1, e2]; clear hb e1 e2
    go_enter Try.func15, Try.ntmps15
    go_wp2
    go_ret2
    exact ⟨rfl, Below.refl _ _⟩
  all_goals
    go_enter Try.func15, Try.ntmps15
    go_wp2
    go_ret2
    exact ⟨rfl, (Below.refl _ _).alloc (Nat.le_refl _) _⟩

end Go.Proofs.Ytlbpjcphhocdkaa
