/- The check bytes, as they are asked for. -/
import Derived.Test.YtlbpjcphhocdkaaSum2
namespace Go.Proofs.Ytlbpjcphhocdkaa
open Go.RowKit

set_option maxHeartbeats 400000 in
theorem sum_any (s : ByteArray) (c : Int) (w : World) (hs : s.size ≤ 140737488352000) :
    Calls Try.prog 12 #[.string s, .int .i64 c] w fun e w' => e = .returned (.tuple #[.string ⟨(Crc.sumS c s.data.toList).toArray⟩, .int .i64 (Crc.sumE c)]) ∧ Below w.heap.size w w' := by
  by_cases hc : c = 0 ∨ c = 1
  · have hd : decide (c = 0 ∨ c = 1) = true := by simp [hc]
    have e2 : Crc.sumE c = 0 := by rcases hc with rfl | rfl <;> rfl
    rw [e2]
    have HD : Hid (decide (c = 0 ∨ c = 1) = true) := hd
    have HC : Hid (c = 0 ∨ c = 1) := hc
    clear hd hc e2
    go_enter Try.func12, Try.ntmps12
    go_wp2_with (first | (go_at_call 34; refine (isCheck_any c _).mono ?_; rintro e w1 ⟨rfl, rfl⟩; rw [HD.out]) | (go_at_call 35; refine (checkBytes_any s c _ hs HC.out).mono ?_; rintro e w2 ⟨rfl, hb2⟩))
    go_ret2
    exact ⟨rfl, by assumption⟩
  · have hd : decide (c = 0 ∨ c = 1) = false := by simp [hc]
    have n0 : c ≠ 0 := fun h => hc (Or.inl h)
    have n1 : c ≠ 1 := fun h => hc (Or.inr h)
    have e1 : Crc.sumS c s.data.toList = [] := by simp [Crc.sumS, n0, n1]
    have e2 : Crc.sumE c = 1 := by simp [Crc.sumE, n0, n1]
    rw [e1, e2]
    have HD : Hid (decide (c = 0 ∨ c = 1) = false) := hd
    clear hd hc e1 e2 n0 n1
    go_enter Try.func12, Try.ntmps12
    go_wp2_with (first | (go_at_call 34; refine (isCheck_any c _).mono ?_; rintro e w1 ⟨rfl, rfl⟩; rw [HD.out]))
    go_ret2
    exact ⟨rfl, Below.refl _ _⟩
end Go.Proofs.Ytlbpjcphhocdkaa
