/- The program's functions beneath Encode: what may be sent. -/
import Derived.Test.YtlbpjcphhocdkaaSum2
import Derived.Test.YtlbpjcphhocdkaaBlk
import Derived.Deep.QuietTactic
import Derived.BigQuiet
namespace Go.Proofs.Ytlbpjcphhocdkaa
open Go.RowKit

set_option maxHeartbeats 400000 in
theorem isControl_any (u : UInt8) (w : World) :
    Calls Try.prog 87 #[.int .u8 u.toNat] w fun e w' => e = .returned (.bool (Blk.isCtl u)) ∧ w' = w := by
  generalize hn : u.toNat = n
  have H : Hid (Blk.isCtl u = decide (n = 1 ∨ n = 2 ∨ n = 3 ∨ n = 4 ∨ n = 5 ∨ n = 16 ∨ n = 21 ∨ n = 22 ∨ n = 23 ∨ n = 31)) := by subst hn; rfl
  have hl := Crc.byte_lt u
  rw [hn] at hl
  clear hn
  go_enter Try.func87, Try.ntmps87
  go_wp2
  all_goals go_ret
  all_goals refine ⟨?_, rfl⟩
  all_goals rw [H.out]
  all_goals (simp only [beq_iff_eq, beq_eq_false_iff_ne, ne_eq] at *)
  all_goals (congr 2; simp; omega)

set_option maxHeartbeats 400000 in
theorem hasControl_any (s : ByteArray) (w : World) (hs : s.size ≤ 140737488352000) :
    Calls Try.prog 75 #[.string s] w fun e w' => e = .returned (.bool (Blk.hasCtl s.data.toList)) ∧ w' = w := by
  go_enter Try.func75, Try.ntmps75
  go_wp2
  go_loop [3] (fun i => ∃ k : Nat, k ≤ s.size ∧ i = .int .i64 k ∧ Blk.hasCtl (s.data.toList.take k) = false) (fun i => s.size - (intOf i).toNat)
  case atStart => exact ⟨0, by omega, rfl, rfl⟩
  case round =>
    obtain ⟨k, hk, rfl, hn⟩ := hrel
    have HN := hide hn
    clear hn
    by_cases hlt : k < s.size
    · have HT := hide (take_snoc s k hlt)
      cases hc : Blk.isCtl s[k]
      · have HC := hide hc
        clear hc
        go_wp2_with (first | (go_at_call 87; refine (isControl_any s[k] _).mono ?_; rintro e w1 ⟨rfl, rfl⟩; rw [HC.out]))
        go_round
        case rel => exact ⟨k + 1, by omega, by go_num, by rw [HT.out, Blk.hasCtl_snoc, HN.out, HC.out]; rfl⟩
        case measure => simp [intOf]; omega
      · have HC := hide hc
        clear hc
        have HF : Hid (Blk.hasCtl s.data.toList = true) := Blk.hasCtl_take (k := k + 1) (by rw [HT.out, Blk.hasCtl_snoc, HC.out]; simp)
        go_wp2_with (first | (go_at_call 87; refine (isControl_any s[k] _).mono ?_; rintro e w1 ⟨rfl, rfl⟩; rw [HC.out]))
        go_ret
        exact ⟨by rw [HF.out]; rfl, rfl⟩
    · have HT : Hid (s.data.toList.take k = s.data.toList) := List.take_of_length_le (by simp; omega)
      go_wp2
      go_ret
      exact ⟨by rw [← HT.out, HN.out]; rfl, rfl⟩

theorem size_list (s : ByteArray) : s.data.toList.length = s.size := by simp

set_option maxHeartbeats 400000 in
theorem isHead_any (s : ByteArray) (w : World) (hs : s.size ≤ 140737488352000) :
    Calls Try.prog 58 #[.string s] w fun e w' => e = .returned (.bool (Blk.headOk s.data.toList)) ∧ w' = w := by
  have HH : Hid (Blk.headOk s.data.toList = (decide (s.size ≤ 8) && !Blk.hasCtl s.data.toList)) := by unfold Hid Blk.headOk; rw [size_list]
  by_cases h : s.size ≤ 8
  · have h' : (s.size : Int) ≤ 8 := by omega
    go_enter Try.func58, Try.ntmps58
    go_wp2_with (first | (go_at_call 75; refine (hasControl_any s _ hs).mono ?_; rintro e w1 ⟨rfl, rfl⟩))
    go_ret
    exact ⟨by rw [HH.out]; simp [h], rfl⟩
  · have h' : ¬ (s.size : Int) ≤ 8 := by omega
    go_enter Try.func58, Try.ntmps58
    go_wp2
    go_ret
    exact ⟨by rw [HH.out]; simp [h], rfl⟩

set_option maxHeartbeats 400000 in
theorem isText_any (s : ByteArray) (m : Nat) (c : Bool) (w : World) (hs : s.size ≤ 140737488352000) (_hm : m ≤ 1000) :
    Calls Try.prog 59 #[.string s, .int .i64 m, .bool c] w fun e w' => e = .returned (.bool (decide (s.data.toList.length ≤ m) && (c || !Blk.hasCtl s.data.toList))) ∧ w' = w := by
  rw [size_list]
  by_cases h : s.size ≤ m
  · have h' : (s.size : Int) ≤ (m : Int) := by omega
    cases c
    · go_enter Try.func59, Try.ntmps59
      go_wp2_with (first | (go_at_call 75; refine (hasControl_any s _ hs).mono ?_; rintro e w1 ⟨rfl, rfl⟩))
      go_ret
      exact ⟨by simp [h], rfl⟩
    · go_enter Try.func59, Try.ntmps59
      go_wp2
      go_ret
      exact ⟨by simp [h], rfl⟩
  · have h' : ¬ (s.size : Int) ≤ (m : Int) := by omega
    go_enter Try.func59, Try.ntmps59
    go_wp2
    go_ret
    exact ⟨by simp, rfl⟩

theorem isPart_any (s : ByteArray) (c : Bool) (w : World) (hs : s.size ≤ 140737488352000) :
    Calls Try.prog 59 #[.string s, .int .i64 32, .bool c] w fun e w' => e = .returned (.bool (Blk.partOk c s.data.toList)) ∧ w' = w := isText_any s 32 c w hs (by omega)

end Go.Proofs.Ytlbpjcphhocdkaa
