/- What the program's Sum and the document's Sum answer: the same bytes and the same error, for every check and for every string for whose bits there is room; both make new memory alone. -/
import Derived.Test.YtlbpjcphhocdkaaOwn
import Derived.Test.YtlbpjcphhocdkaaCrc
import Derived.Lib.SmallJoins
namespace Go.Proofs.Ytlbpjcphhocdkaa
open Go.RowKit Go.Joins

theorem wrap_u16' (n : Int) : IntKind.u16.wrap n = n % 65536 := by simp [IntKind.wrap, IntKind.bits, IntKind.signed]
theorem wrap_u8' (n : Int) : IntKind.u8.wrap n = n % 256 := by simp [IntKind.wrap, IntKind.bits, IntKind.signed]

theorem xor_u16 (a b : Nat) (ha : a < 65536) (hb : b < 65536) : bits .xor .u16 (a : Int) (b : Int) = ((a ^^^ b : Nat) : Int) := by
  have hx : a ^^^ b < 2 ^ 16 := Nat.xor_lt_two_pow (by omega) (by omega)
  have h1 : (BitVec.ofInt 16 (a : Int)).toNat = a := by
    rw [BitVec.ofInt_natCast, BitVec.toNat_ofNat]; exact Nat.mod_eq_of_lt (by omega)
  have h2 : (BitVec.ofInt 16 (b : Int)).toNat = b := by
    rw [BitVec.ofInt_natCast, BitVec.toNat_ofNat]; exact Nat.mod_eq_of_lt (by omega)
  show IntKind.u16.wrap ((BitVec.ofInt 16 (a : Int) ^^^ BitVec.ofInt 16 (b : Int)).toNat : Int) = _
  rw [BitVec.toNat_xor, h1, h2, wrap_u16']
  omega

theorem xor_u8 (a b : Nat) (ha : a < 256) (hb : b < 256) : bits .xor .u8 (a : Int) (b : Int) = ((a ^^^ b : Nat) : Int) := by
  have hx : a ^^^ b < 2 ^ 8 := Nat.xor_lt_two_pow (by omega) (by omega)
  have h1 : (BitVec.ofInt 8 (a : Int)).toNat = a := by
    rw [BitVec.ofInt_natCast, BitVec.toNat_ofNat]; exact Nat.mod_eq_of_lt (by omega)
  have h2 : (BitVec.ofInt 8 (b : Int)).toNat = b := by
    rw [BitVec.ofInt_natCast, BitVec.toNat_ofNat]; exact Nat.mod_eq_of_lt (by omega)
  show IntKind.u8.wrap ((BitVec.ofInt 8 (a : Int) ^^^ BitVec.ofInt 8 (b : Int)).toNat : Int) = _
  rw [BitVec.toNat_xor, h1, h2, wrap_u8']
  omega

theorem mask_u16 (a i : Nat) (ha : a < 65536) (hi : i ≤ 16) : bits .and .u16 (a : Int) (2 ^ i - 1) = ((a % 2 ^ i : Nat) : Int) := by
  have h := bits_mask .u16 16 (by decide) (fun n h0 h1 => by rw [wrap_u16']; omega) i hi (a : Int) (by omega) (by omega)
  rw [h]
  simp

theorem and1_u16 (a : Nat) (ha : a < 65536) : bits .and .u16 (a : Int) 1 = ((a % 2 : Nat) : Int) := mask_u16 a 1 ha (by decide)
theorem and255_u16 (a : Nat) (ha : a < 65536) : bits .and .u16 (a : Int) 255 = ((a % 256 : Nat) : Int) := mask_u16 a 8 ha (by decide)

set_option maxHeartbeats 400000 in
theorem divideByte_any (r : Nat) (w : World) (h1 : r < 65536) :
    Calls Try.prog 74 #[.int .u16 r] w fun e w' => e = .returned (.int .u16 (Crc.shN 8 r : Nat)) ∧ w' = w := by
  go_enter Try.func74, Try.ntmps74
  go_wp2
  go_loop [0, 3] (fun q i => ∃ k : Nat, k ≤ 8 ∧ i = .int .i64 k ∧ q = .int .u16 (Crc.shN k r : Nat)) (fun _ i => (8 - intOf i).toNat)
  case atStart => exact ⟨0, by omega, rfl, rfl⟩
  case round =>
    obtain ⟨k, hk, rfl, rfl⟩ := hrel
    have hx := Crc.shN_lt k h1
    have H : Hid (Crc.shN (k + 1) r = Crc.sh (Crc.shN k r)) := rfl
    by_cases hlt : k < 8
    · generalize Crc.shN k r = x at *
      have ha := and1_u16 x hx
      have ho : (x : Int) / 2 = ((x / 2 : Nat) : Int) := by omega
      by_cases hp : x % 2 = 1
      · have hs : Hid (Crc.sh x = (x / 2) ^^^ 40961) := by simp [Hid, Crc.sh, hp]
        have hxo : bits .xor .u16 ((x / 2 : Nat) : Int) 40961 = (((x / 2) ^^^ 40961 : Nat) : Int) := xor_u16 (x / 2) 40961 (by omega) (by omega)
        have HX : Hid (bits .xor .u16 ((x / 2 : Nat) : Int) 40961 = (((x / 2) ^^^ 40961 : Nat) : Int)) := hxo
        clear hxo
        have hd : (bits BinOp.and IntKind.u16 (x : Int) 1 == 1) = true := by rw [ha, hp]; rfl
        clear ha hp
        have HO : Hid ((x : Int) / 2 = ((x / 2 : Nat) : Int)) := ho
        clear ho
        go_wp2
        go_round
        case rel => exact ⟨k + 1, by omega, by go_num, by rw [H.out, hs.out, HO.out, HX.out]⟩
        case measure => simp [intOf]; omega
      · have hs : Hid (Crc.sh x = x / 2) := by simp [Hid, Crc.sh, hp]
        have hd : (bits BinOp.and IntKind.u16 (x : Int) 1 == 1) = false := by rw [ha, show x % 2 = 0 by omega]; rfl
        clear ha hp
        have HO : Hid ((x : Int) / 2 = ((x / 2 : Nat) : Int)) := ho
        clear ho
        go_wp2
        go_round
        case rel => exact ⟨k + 1, by omega, by go_num, by rw [H.out, hs.out, HO.out]⟩
        case measure => simp [intOf]; omega
    · obtain rfl : k = 8 := by omega
      go_wp2
      go_ret
      exact ⟨rfl, rfl⟩

theorem take_snoc (s : ByteArray) (k : Nat) (h : k < s.size) : s.data.toList.take (k + 1) = s.data.toList.take k ++ [s[k]] := by
  rw [List.take_succ_eq_append_getElem (by simpa using h)]; rfl

set_option maxHeartbeats 400000 in
theorem xorByte_any (s : ByteArray) (w : World) (hs : s.size ≤ 140737488352000) :
    Calls Try.prog 56 #[.string s] w fun e w' => e = .returned (.string ⟨(Crc.xorS s.data.toList).toArray⟩) ∧ Below w.heap.size w w' := by
  have c1 := conv_lit1
  go_enter Try.func56, Try.ntmps56
  go_wp2
  go_loop [3, 4] (fun r i => ∃ k : Nat, k ≤ s.size ∧ i = .int .i64 k ∧ r = .int .u8 (Crc.xorB (s.data.toList.take k) : Nat)) (fun _ i => s.size - (intOf i).toNat)
  case atStart => exact ⟨0, by omega, rfl, rfl⟩
  case round =>
    obtain ⟨k, hk, rfl, rfl⟩ := hrel
    by_cases hlt : k < s.size
    · have hx := Crc.xorB_lt (s.data.toList.take k)
      have hb := Crc.byte_lt s[k]
      have HS : Hid (Crc.xorB (s.data.toList.take (k + 1)) = Crc.xorB (s.data.toList.take k) ^^^ s[k].toNat) := by rw [Hid, take_snoc s k hlt, Crc.xorB_snoc]
      have HX : Hid (bits .xor .u8 (Crc.xorB (s.data.toList.take k) : Int) (s[k].toNat : Int) = ((Crc.xorB (s.data.toList.take k) ^^^ s[k].toNat : Nat) : Int)) := xor_u8 _ _ hx hb
      go_wp2
      go_round
      case rel => exact ⟨k + 1, by omega, by go_num, by rw [HS.out, HX.out]⟩
      case measure => simp [intOf]; omega
    · have HT : Hid (s.data.toList.take k = s.data.toList) := List.take_of_length_le (by simp; omega)
      go_wp2
      go_ret
      refine ⟨?_, (Below.refl _ _).alloc (Nat.le_refl _) _⟩
      rw [HT.out]
      simp [Crc.xorS, strOfNums]

end Go.Proofs.Ytlbpjcphhocdkaa
