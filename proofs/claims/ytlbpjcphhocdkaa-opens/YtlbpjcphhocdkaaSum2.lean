/- The program's Sum, whole. -/
import Derived.Test.YtlbpjcphhocdkaaSum
namespace Go.Proofs.Ytlbpjcphhocdkaa
open Go.RowKit Go.Joins

set_option maxHeartbeats 400000 in
theorem cyclicBytes_any (s : ByteArray) (w : World) (hs : s.size ≤ 140737488352000) :
    Calls Try.prog 55 #[.string s] w fun e w' => e = .returned (.string ⟨(Crc.crcS s.data.toList).toArray⟩) ∧ Below w.heap.size w w' := by
  have c2 := conv_lit2
  go_enter Try.func55, Try.ntmps55
  go_wp2
  go_loop [3, 4] (fun r i => ∃ k : Nat, k ≤ s.size ∧ i = .int .i64 k ∧ r = .int .u16 (Crc.crc (s.data.toList.take k) : Nat)) (fun _ i => s.size - (intOf i).toNat)
  case atStart => exact ⟨0, by omega, rfl, rfl⟩
  case round =>
    obtain ⟨k, hk, rfl, rfl⟩ := hrel
    have hx := Crc.crc_lt (s.data.toList.take k)
    by_cases hlt : k < s.size
    · have hb := Crc.byte_lt s[k]
      have HS : Hid (Crc.crc (s.data.toList.take (k + 1)) = Crc.shN 8 (Crc.crc (s.data.toList.take k) ^^^ s[k].toNat)) := by rw [Hid, take_snoc s k hlt, Crc.crc_snoc]
      have HL := Crc.crc_step_lt hx hb
      have HX : bits .xor .u16 (Crc.crc (s.data.toList.take k) : Int) (s[k].toNat : Int) = ((Crc.crc (s.data.toList.take k) ^^^ s[k].toNat : Nat) : Int) := xor_u16 _ _ hx (by omega)
      generalize Crc.crc (s.data.toList.take k) = x at *
      go_wp2_with (first | (go_at_call 74; refine (divideByte_any (x ^^^ s[k].toNat) _ HL).mono ?_; rintro e w1 ⟨rfl, rfl⟩))
      go_round
      case rel => exact ⟨k + 1, by omega, by go_num, by rw [HS.out]⟩
      case measure => simp [intOf]; omega
    · have HT : Hid (s.data.toList.take k = s.data.toList) := List.take_of_length_le (by simp; omega)
      rw [HT.out] at hx
      rw [HT.out]
      have HC : Hid (Crc.crcS s.data.toList = [UInt8.ofNat (Crc.crc s.data.toList % 256), UInt8.ofNat (Crc.crc s.data.toList / 256)]) := rfl
      generalize Crc.crc s.data.toList = x at *
      have ha : bits .and .u16 (x : Int) 255 = ((x % 256 : Nat) : Int) := and255_u16 x hx
      go_wp2
      go_ret
      refine ⟨?_, (Below.refl _ _).alloc (Nat.le_refl _) _⟩
      rw [HC.out]
      simp [strOfNums]
      exact ⟨congrArg UInt8.ofNat (by omega), congrArg UInt8.ofNat (by omega)⟩

set_option maxHeartbeats 400000 in
theorem isCheck_any (c : Int) (w : World) :
    Calls Try.prog 34 #[.int .i64 c] w fun e w' => e = .returned (.bool (decide (c = 0 ∨ c = 1))) ∧ w' = w := by
  by_cases h0 : c = 0
  · subst h0
    go_enter Try.func34, Try.ntmps34
    go_wp2
    go_ret
    exact ⟨rfl, rfl⟩
  · by_cases h1 : c = 1
    · subst h1
      go_enter Try.func34, Try.ntmps34
      go_wp2
      go_ret
      exact ⟨rfl, rfl⟩
    · have e0 : (c == 0) = false := by simp [h0]
      have e1 : (c == 1) = false := by simp [h1]
      go_enter Try.func34, Try.ntmps34
      go_wp2
      go_ret
      exact ⟨by simp [h0, h1], rfl⟩

set_option maxHeartbeats 400000 in
theorem checkBytes_any (s : ByteArray) (c : Int) (w : World) (hs : s.size ≤ 140737488352000) (hc : c = 0 ∨ c = 1) :
    Calls Try.prog 35 #[.string s, .int .i64 c] w fun e w' => e = .returned (.string ⟨(Crc.sumS c s.data.toList).toArray⟩) ∧ Below w.heap.size w w' := by
  rcases hc with rfl | rfl
  · go_enter Try.func35, Try.ntmps35
    go_wp2_with (first | (go_at_call 56; refine (xorByte_any s _ hs).mono ?_; rintro e w1 ⟨rfl, hb1⟩))
    go_ret
    exact ⟨rfl, by assumption⟩
  · go_enter Try.func35, Try.ntmps35
    go_wp2_with (first | (go_at_call 55; refine (cyclicBytes_any s _ hs).mono ?_; rintro e w1 ⟨rfl, hb1⟩))
    go_ret
    exact ⟨rfl, by assumption⟩

end Go.Proofs.Ytlbpjcphhocdkaa
