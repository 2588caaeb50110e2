/- The document's Sum, whole. -/
import Derived.Test.YtlbpjcphhocdkaaRem
namespace Go.Proofs.Ytlbpjcphhocdkaa
open Go.RowKit Go.Joins

set_option maxHeartbeats 400000 in
theorem refSum_xor (s : ByteArray) (w : World) (hs : s.size ≤ 1000000000000) :
    Calls Try.prog 13 #[.string s, .int .i64 0] w fun e w' => e = .returned (.tuple #[.string ⟨(Crc.xorS s.data.toList).toArray⟩, .int .i64 0]) ∧ Below w.heap.size w w' := by
  have c1 := conv_lit1
  go_enter Try.func13, Try.ntmps13
  go_wp2
  go_loop [6, 7] (fun r i => ∃ k : Nat, k ≤ s.size ∧ i = .int .i64 k ∧ r = .int .u8 (Crc.xorB (s.data.toList.take k) : Nat)) (fun _ i => s.size - (intOf i).toNat)
  case atStart => exact ⟨0, by omega, rfl, rfl⟩
  case round =>
    obtain ⟨k, hk, rfl, rfl⟩ := hrel
    by_cases hlt : k < s.size
    · have hx := Crc.xorB_lt (s.data.toList.take k)
      have hb := Crc.byte_lt s[k]
      have HS : Hid (Crc.xorB (s.data.toList.take (k + 1)) = Crc.xorB (s.data.toList.take k) ^^^ s[k].toNat) := by rw [Hid, take_snoc s k hlt, Crc.xorB_snoc]
      have HX : Hid (bits .xor .u8 (Crc.xorB (s.data.toList.take k) : Int) (s[k].toNat : Int) = ((Crc.xorB (s.data.toList.take k) ^^^ s[k].toNat : Nat) : Int)) := xor_u8 _ _ hx hb
      go_wp2
      go_round
      case rel => exact ⟨k + 1, by omega, by go_num, by rw [HS.out, HX.out]⟩
      case measure => simp [intOf]; omega
    · have HT : Hid (s.data.toList.take k = s.data.toList) := List.take_of_length_le (by simp; omega)
      go_wp2
      go_ret2
      refine ⟨?_, (Below.refl _ _).alloc (Nat.le_refl _) _⟩
      rw [HT.out]
      simp [Crc.xorS, strOfNums]

set_option maxHeartbeats 400000 in
theorem refSum_any (s : ByteArray) (c : Int) (w : World) (hs : s.size ≤ 1000000000000) :
    Calls Try.prog 13 #[.string s, .int .i64 c] w fun e w' => e = .returned (.tuple #[.string ⟨(Crc.sumS c s.data.toList).toArray⟩, .int .i64 (Crc.sumE c)]) ∧ Below w.heap.size w w' := by
  by_cases h0 : c = 0
  · subst h0
    exact refSum_xor s w hs
  · by_cases h1 : c = 1
    · subst h1
      go_enter Try.func13, Try.ntmps13
      go_wp2_with (first | (go_at_call 36; refine (remainder_any s _ hs).mono ?_; rintro e w1 ⟨rfl, hb1⟩))
      go_ret2
      exact ⟨rfl, by assumption⟩
    · have e1 : Crc.sumS c s.data.toList = [] := by simp [Crc.sumS, h0, h1]
      have e2 : Crc.sumE c = 1 := by simp [Crc.sumE, h0, h1]
      rw [e1, e2]
      have d0 : (c == 0) = false := by simp [h0]
      have d1 : (c == 1) = false := by simp [h1]
      clear h0 h1 e1 e2
      go_enter Try.func13, Try.ntmps13
      go_wp2
      go_ret2
      exact ⟨rfl, Below.refl _ _⟩

end Go.Proofs.Ytlbpjcphhocdkaa
