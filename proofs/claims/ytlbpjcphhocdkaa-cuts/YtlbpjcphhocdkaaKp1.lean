/- The statements' own functions over blocks: is it a good one, is it refused, what is its transmission, is it what was read. -/
import Derived.Test.YtlbpjcphhocdkaaRd6
import Derived.Test.YtlbpjcphhocdkaaPick
namespace Go.Proofs.Ytlbpjcphhocdkaa
open Go.RowKit

set_option maxHeartbeats 2000000 in
theorem kplain_any (s : ByteArray) (w : World) (hs : s.size ≤ 140737488352000) :
    Calls Try.prog 73 #[.string s] w fun e w' => e = .returned (.bool (!Blk.hasCtl s.data.toList)) ∧ w' = w := by
  go_enter Try.func73, Try.ntmps73
  go_wp2
  go_loop [3] (fun i => ∃ k : Nat, k ≤ s.size ∧ i = .int .i64 k ∧ Hid (Blk.hasCtl (s.data.toList.take k) = false)) (fun i => s.size - (intOf i).toNat)
  case atStart => exact ⟨0, by omega, rfl, rfl⟩
  case round =>
    obtain ⟨k, hk, rfl, HN⟩ := hrel
    by_cases hlt : k < s.size
    · have HT := hide (take_snoc s k hlt)
      have hlt' : (k : Int) < (s.size : Int) := by omega
      have HX : Hid (Blk.isCtl s[k] = decide (s[k].toNat = 1 ∨ s[k].toNat = 2 ∨ s[k].toNat = 3 ∨ s[k].toNat = 4 ∨ s[k].toNat = 5 ∨ s[k].toNat = 16 ∨ s[k].toNat = 21 ∨ s[k].toNat = 22 ∨ s[k].toNat = 23 ∨ s[k].toNat = 31)) := rfl
      cases hc : Blk.isCtl s[k]
      · have HF : Hid (Blk.hasCtl (s.data.toList.take (k + 1)) = false) := by rw [Hid, HT.out, Blk.hasCtl_snoc, HN.out, hc]; rfl
        have hx := HX.out.symm.trans hc
        simp only [decide_eq_false_iff_not] at hx
        have d16 : ((s[k].toNat : Int) == 16) = false := by simp; omega
        have d31 : ((s[k].toNat : Int) == 31) = false := by simp; omega
        have hb := Crc.byte_lt s[k]
        clear hc HX HT HN
        by_cases a1 : (1 : Int) ≤ (s[k].toNat : Int) <;> by_cases a2 : (s[k].toNat : Int) ≤ 5 <;> by_cases a3 : (21 : Int) ≤ (s[k].toNat : Int) <;> by_cases a4 : (s[k].toNat : Int) ≤ 23 <;> first | (exfalso; omega) | skip
        all_goals clear hx
        all_goals go_wp2
        all_goals go_round
        all_goals first | exact ⟨k + 1, by omega, by go_num, HF⟩ | (simp [intOf]; omega)
      · have HF : Hid (Blk.hasCtl s.data.toList = true) := Blk.hasCtl_take (k := k + 1) (by rw [HT.out, Blk.hasCtl_snoc, hc]; simp)
        have hx := HX.out.symm.trans hc
        simp only [decide_eq_true_eq] at hx
        clear hc HX HT HN
        rcases hx with h | h | h | h | h | h | h | h | h | h
        all_goals
          have h' : (s[k].toNat : Int) = _ := congrArg Int.ofNat h
          clear h
          go_wp2
          go_ret
          exact ⟨by rw [HF.out]; rfl, rfl⟩
    · have HT : Hid (s.data.toList.take k = s.data.toList) := List.take_of_length_le (by simp; omega)
      have hlt' : ¬ (k : Int) < (s.size : Int) := by omega
      go_wp2
      go_ret
      exact ⟨by rw [← HT.out, HN.out]; rfl, rfl⟩
end Go.Proofs.Ytlbpjcphhocdkaa
