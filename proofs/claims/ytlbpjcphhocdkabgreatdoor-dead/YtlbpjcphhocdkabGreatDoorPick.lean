/- The raw number that picks one of n things. -/
import Derived.Test.YtlbpjcphhocdkabGreatDoorOwn
namespace Go.Proofs.YtlbpjcphhocdkabGreatDoor
open Go.RowKit

def pickI (c n : Int) : Int := (if c < 0 then -(c + 1) else c) % n

set_option maxHeartbeats 400000 in
theorem pick_any (c n : Int) (w : World) (h0 : -9223372036854775808 ≤ c) (h1 : c ≤ 9223372036854775807) (hn : 0 < n) (hm : n ≤ 1000000000) :
    Calls Tryz.prog 16 #[.int .i64 c, .int .i64 n] w fun e w' => e = .returned (.int .i64 (pickI c n)) ∧ w' = w := by
  have hnz : (n == 0) = false := by simp; omega
  by_cases hc : c < 0
  · have HP : Hid (pickI c n = (-(c + 1)) % n) := by simp [Hid, pickI, hc]
    have hb : 0 ≤ -(c + 1) := by omega
    go_enter Tryz.func16, Tryz.ntmps16
    go_wp2
    go_ret
    refine ⟨?_, rfl⟩
    rw [HP.out]
    show Ending.returned (Value.int .i64 (-(c + 1).tmod n)) = _
    rw [← Int.neg_tmod, Int.tmod_eq_emod_of_nonneg hb]
  · have HP : Hid (pickI c n = c % n) := by simp [Hid, pickI, hc]
    have hb : 0 ≤ c := by omega
    go_enter Tryz.func16, Tryz.ntmps16
    go_wp2
    go_ret
    exact ⟨by rw [HP.out]; rfl, rfl⟩
theorem pickI_lt (c n : Int) (hn : 0 < n) : 0 ≤ pickI c n ∧ pickI c n < n := by
  unfold pickI
  exact ⟨Int.emod_nonneg _ (by omega), Int.emod_lt_of_pos _ hn⟩
end Go.Proofs.YtlbpjcphhocdkabGreatDoor
