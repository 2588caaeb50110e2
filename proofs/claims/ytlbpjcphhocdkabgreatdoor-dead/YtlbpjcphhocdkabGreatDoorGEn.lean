/-What the program's Sum and the document's Sum answer: the same bytes and the same error, for every check and for every string for whose bits there is room; both make new memory alone. The program's Sum, whole. The program's functions beneath Encode: what may be sent. The program's functions beneath Encode: the error of a block. The program's functions beneath Encode: how a block is written. Laws of my own on the byte slice that '[]byte(s)' makes: its row bears the mark of a conversion behind its last cell. What the program's Short and the document's Short answer, for every kind: the same string and the same error; both make new memory alone. The program's Encode, whole. -/
import Derived.Test.YtlbpjcphhocdkabGreatDoorOwn
import Derived.Test.YtlbpjcphhocdkabGreatDoorGPa
import Derived.Lib.SmallJoins
import Derived.Deep.QuietTactic
import Derived.BigQuiet
import Derived.WalkSmall
import Derived.Lib.ConvBytes
import Derived.Lib.FrozenHead
import Derived.Deep.RegionHeld3
namespace Go.Proofs.YtlbpjcphhocdkabGreatDoor
open Go.RowKit Go.Joins

theorem wrap_u16' (n : Int) : IntKind.u16.wrap n = n % 65536 := by simp [IntKind.wrap, IntKind.bits, IntKind.signed]
theorem wrap_u8' (n : Int) : IntKind.u8.wrap n = n % 256 := by simp [IntKind.wrap, IntKind.bits, IntKind.signed]

theorem xor_u16 (a b : Nat) (ha : a < 65536) (hb : b < 65536) : bits .xor .u16 (a : Int) (b : Int) = ((a ^^^ b : Nat) : Int) := by
  have hx : a ^^^ b < 2 ^ 16 := Nat.xor_lt_two_pow (by omega) (by omega)
  have h1 : (BitVec.ofInt 16 (a : Int)).toNat = a := by
    rw [BitVec.ofInt_natCast, BitVec.toNat_ofNat]; exact Nat.mod_eq_of_lt (by omega)
  have h2 : (BitVec.ofInt 16 (b : Int)).toNat = b := by
    rw [BitVec.ofInt_natCast, BitVec.toNat_ofNat]; exact Nat.mod_eq_of_lt (by omega)
  show IntKind.u16.wrap ((BitVec.ofInt 16 (a : Int) ^^^ BitVec.ofInt 16 (b : Int)).toNat : Int) = _
  rw [BitVec.toNat_xor, h1, h2, wrap_u16']
  omega

theorem xor_u8 (a b : Nat) (ha : a < 256) (hb : b < 256) : bits .xor .u8 (a : Int) (b : Int) = ((a ^^^ b : Nat) : Int) := by
  have hx : a ^^^ b < 2 ^ 8 := Nat.xor_lt_two_pow (by omega) (by omega)
  have h1 : (BitVec.ofInt 8 (a : Int)).toNat = a := by
    rw [BitVec.ofInt_natCast, BitVec.toNat_ofNat]; exact Nat.mod_eq_of_lt (by omega)
  have h2 : (BitVec.ofInt 8 (b : Int)).toNat = b := by
    rw [BitVec.ofInt_natCast, BitVec.toNat_ofNat]; exact Nat.mod_eq_of_lt (by omega)
  show IntKind.u8.wrap ((BitVec.ofInt 8 (a : Int) ^^^ BitVec.ofInt 8 (b : Int)).toNat : Int) = _
  rw [BitVec.toNat_xor, h1, h2, wrap_u8']
  omega

theorem mask_u16 (a i : Nat) (ha : a < 65536) (hi : i ≤ 16) : bits .and .u16 (a : Int) (2 ^ i - 1) = ((a % 2 ^ i : Nat) : Int) := by
  have h := bits_mask .u16 16 (by decide) (fun n h0 h1 => by rw [wrap_u16']; omega) i hi (a : Int) (by omega) (by omega)
  rw [h]
  simp

theorem and1_u16 (a : Nat) (ha : a < 65536) : bits .and .u16 (a : Int) 1 = ((a % 2 : Nat) : Int) := mask_u16 a 1 ha (by decide)
theorem and255_u16 (a : Nat) (ha : a < 65536) : bits .and .u16 (a : Int) 255 = ((a % 256 : Nat) : Int) := mask_u16 a 8 ha (by decide)

set_option maxHeartbeats 400000 in
theorem divideByte_any (r : Nat) (w : World) (h1 : r < 65536) :
    Calls Tryz.prog 126 #[.int .u16 r] w fun e w' => e = .returned (.int .u16 (Crc.shN 8 r : Nat)) ∧ w' = w := by
  go_enter Tryz.func126, Tryz.ntmps126
  go_wp2
  go_loop [0, 3] (fun q i => ∃ k : Nat, k ≤ 8 ∧ i = .int .i64 k ∧ q = .int .u16 (Crc.shN k r : Nat)) (fun _ i => (8 - intOf i).toNat)
  case atStart => exact ⟨0, by omega, rfl, rfl⟩
  case round =>
    obtain ⟨k, hk, rfl, rfl⟩ := hrel
    have hx := Crc.shN_lt k h1
    have H : Hid (Crc.shN (k + 1) r = Crc.sh (Crc.shN k r)) := rfl
    by_cases hlt : k < 8
    · generalize Crc.shN k r = x at *
      have ha := and1_u16 x hx
      have ho : (x : Int) / 2 = ((x / 2 : Nat) : Int) := by omega
      by_cases hp : x % 2 = 1
      · have hs : Hid (Crc.sh x = (x / 2) ^^^ 40961) := by simp [Hid, Crc.sh, hp]
        have hxo : bits .xor .u16 ((x / 2 : Nat) : Int) 40961 = (((x / 2) ^^^ 40961 : Nat) : Int) := xor_u16 (x / 2) 40961 (by omega) (by omega)
        have HX : Hid (bits .xor .u16 ((x / 2 : Nat) : Int) 40961 = (((x / 2) ^^^ 40961 : Nat) : Int)) := hxo
        clear hxo
        have hd : (bits BinOp.and IntKind.u16 (x : Int) 1 == 1) = true := by rw [ha, hp]; rfl
        clear ha hp
        have HO : Hid ((x : Int) / 2 = ((x / 2 : Nat) : Int)) := ho
        clear ho
        go_wp2
        go_round
        case rel => exact ⟨k + 1, by omega, by go_num, by rw [H.out, hs.out, HO.out, HX.out]⟩
        case measure => simp [intOf]; omega
      · have hs : Hid (Crc.sh x = x / 2) := by simp [Hid, Crc.sh, hp]
        have hd : (bits BinOp.and IntKind.u16 (x : Int) 1 == 1) = false := by rw [ha, show x % 2 = 0 by omega]; rfl
        clear ha hp
        have HO : Hid ((x : Int) / 2 = ((x / 2 : Nat) : Int)) := ho
        clear ho
        go_wp2
        go_round
        case rel => exact ⟨k + 1, by omega, by go_num, by rw [H.out, hs.out, HO.out]⟩
        case measure => simp [intOf]; omega
    · obtain rfl : k = 8 := by omega
      go_wp2
      go_ret
      exact ⟨rfl, rfl⟩

theorem take_snoc (s : ByteArray) (k : Nat) (h : k < s.size) : s.data.toList.take (k + 1) = s.data.toList.take k ++ [s[k]] := by
  rw [List.take_succ_eq_append_getElem (by simpa using h)]; rfl

set_option maxHeartbeats 400000 in
theorem xorByte_any (s : ByteArray) (w : World) (hs : s.size ≤ 140737488352000) :
    Calls Tryz.prog 125 #[.string s] w fun e w' => e = .returned (.string ⟨(Crc.xorS s.data.toList).toArray⟩) ∧ Below w.heap.size w w' := by
  have c1 := conv_lit1
  go_enter Tryz.func125, Tryz.ntmps125
  go_wp2
  go_loop [3, 4] (fun r i => ∃ k : Nat, k ≤ s.size ∧ i = .int .i64 k ∧ r = .int .u8 (Crc.xorB (s.data.toList.take k) : Nat)) (fun _ i => s.size - (intOf i).toNat)
  case atStart => exact ⟨0, by omega, rfl, rfl⟩
  case round =>
    obtain ⟨k, hk, rfl, rfl⟩ := hrel
    by_cases hlt : k < s.size
    · have hx := Crc.xorB_lt (s.data.toList.take k)
      have hb := Crc.byte_lt s[k]
      have HS : Hid (Crc.xorB (s.data.toList.take (k + 1)) = Crc.xorB (s.data.toList.take k) ^^^ s[k].toNat) := by rw [Hid, take_snoc s k hlt, Crc.xorB_snoc]
      have HX : Hid (bits .xor .u8 (Crc.xorB (s.data.toList.take k) : Int) (s[k].toNat : Int) = ((Crc.xorB (s.data.toList.take k) ^^^ s[k].toNat : Nat) : Int)) := xor_u8 _ _ hx hb
      go_wp2
      go_round
      case rel => exact ⟨k + 1, by omega, by go_num, by rw [HS.out, HX.out]⟩
      case measure => simp [intOf]; omega
    · have HT : Hid (s.data.toList.take k = s.data.toList) := List.take_of_length_le (by simp; omega)
      go_wp2
      go_ret
      refine ⟨?_, (Below.refl _ _).alloc (Nat.le_refl _) _⟩
      rw [HT.out]
      simp [Crc.xorS, strOfNums]

end Go.Proofs.YtlbpjcphhocdkabGreatDoor

namespace Go.Proofs.YtlbpjcphhocdkabGreatDoor
open Go.RowKit Go.Joins

set_option maxHeartbeats 400000 in
theorem cyclicBytes_any (s : ByteArray) (w : World) (hs : s.size ≤ 140737488352000) :
    Calls Tryz.prog 124 #[.string s] w fun e w' => e = .returned (.string ⟨(Crc.crcS s.data.toList).toArray⟩) ∧ Below w.heap.size w w' := by
  have c2 := conv_lit2
  go_enter Tryz.func124, Tryz.ntmps124
  go_wp2
  go_loop [3, 4] (fun r i => ∃ k : Nat, k ≤ s.size ∧ i = .int .i64 k ∧ r = .int .u16 (Crc.crc (s.data.toList.take k) : Nat)) (fun _ i => s.size - (intOf i).toNat)
  case atStart => exact ⟨0, by omega, rfl, rfl⟩
  case round =>
    obtain ⟨k, hk, rfl, rfl⟩ := hrel
    have hx := Crc.crc_lt (s.data.toList.take k)
    by_cases hlt : k < s.size
    · have hb := Crc.byte_lt s[k]
      have HS : Hid (Crc.crc (s.data.toList.take (k + 1)) = Crc.shN 8 (Crc.crc (s.data.toList.take k) ^^^ s[k].toNat)) := by rw [Hid, take_snoc s k hlt, Crc.crc_snoc]
      have HL := Crc.crc_step_lt hx hb
      have HX : bits .xor .u16 (Crc.crc (s.data.toList.take k) : Int) (s[k].toNat : Int) = ((Crc.crc (s.data.toList.take k) ^^^ s[k].toNat : Nat) : Int) := xor_u16 _ _ hx (by omega)
      generalize Crc.crc (s.data.toList.take k) = x at *
      go_wp2_with (first | (go_at_call 126; refine (divideByte_any (x ^^^ s[k].toNat) _ HL).mono ?_; rintro e w1 ⟨rfl, rfl⟩))
      go_round
      case rel => exact ⟨k + 1, by omega, by go_num, by rw [HS.out]⟩
      case measure => simp [intOf]; omega
    · have HT : Hid (s.data.toList.take k = s.data.toList) := List.take_of_length_le (by simp; omega)
      rw [HT.out] at hx
      rw [HT.out]
      have HC : Hid (Crc.crcS s.data.toList = [UInt8.ofNat (Crc.crc s.data.toList % 256), UInt8.ofNat (Crc.crc s.data.toList / 256)]) := rfl
      generalize Crc.crc s.data.toList = x at *
      have ha : bits .and .u16 (x : Int) 255 = ((x % 256 : Nat) : Int) := and255_u16 x hx
      go_wp2
      go_ret
      refine ⟨?_, (Below.refl _ _).alloc (Nat.le_refl _) _⟩
      rw [HC.out]
      simp [strOfNums]
      exact ⟨congrArg UInt8.ofNat (by omega), congrArg UInt8.ofNat (by omega)⟩

set_option maxHeartbeats 400000 in
theorem isCheck_any (c : Int) (w : World) :
    Calls Tryz.prog 70 #[.int .i64 c] w fun e w' => e = .returned (.bool (decide (c = 0 ∨ c = 1))) ∧ w' = w := by
  by_cases h0 : c = 0
  · subst h0
    go_enter Tryz.func70, Tryz.ntmps70
    go_wp2
    go_ret
    exact ⟨rfl, rfl⟩
  · by_cases h1 : c = 1
    · subst h1
      go_enter Tryz.func70, Tryz.ntmps70
      go_wp2
      go_ret
      exact ⟨rfl, rfl⟩
    · have e0 : (c == 0) = false := by simp [h0]
      have e1 : (c == 1) = false := by simp [h1]
      go_enter Tryz.func70, Tryz.ntmps70
      go_wp2
      go_ret
      exact ⟨by simp [h0, h1], rfl⟩

set_option maxHeartbeats 400000 in
theorem checkBytes_any (s : ByteArray) (c : Int) (w : World) (hs : s.size ≤ 140737488352000) (hc : c = 0 ∨ c = 1) :
    Calls Tryz.prog 116 #[.string s, .int .i64 c] w fun e w' => e = .returned (.string ⟨(Crc.sumS c s.data.toList).toArray⟩) ∧ Below w.heap.size w w' := by
  rcases hc with rfl | rfl
  · go_enter Tryz.func116, Tryz.ntmps116
    go_wp2_with (first | (go_at_call 125; refine (xorByte_any s _ hs).mono ?_; rintro e w1 ⟨rfl, hb1⟩))
    go_ret
    exact ⟨rfl, by assumption⟩
  · go_enter Tryz.func116, Tryz.ntmps116
    go_wp2_with (first | (go_at_call 124; refine (cyclicBytes_any s _ hs).mono ?_; rintro e w1 ⟨rfl, hb1⟩))
    go_ret
    exact ⟨rfl, by assumption⟩

end Go.Proofs.YtlbpjcphhocdkabGreatDoor

namespace Go.Proofs.YtlbpjcphhocdkabGreatDoor
open Go.RowKit

set_option maxHeartbeats 400000 in
theorem isControl_any (u : UInt8) (w : World) :
    Calls Tryz.prog 69 #[.int .u8 u.toNat] w fun e w' => e = .returned (.bool (Blk.isCtl u)) ∧ w' = w := by
  generalize hn : u.toNat = n
  have H : Hid (Blk.isCtl u = decide (n = 1 ∨ n = 2 ∨ n = 3 ∨ n = 4 ∨ n = 5 ∨ n = 16 ∨ n = 21 ∨ n = 22 ∨ n = 23 ∨ n = 31)) := by subst hn; rfl
  have hl := Crc.byte_lt u
  rw [hn] at hl
  clear hn
  go_enter Tryz.func69, Tryz.ntmps69
  go_wp2
  all_goals go_ret
  all_goals refine ⟨?_, rfl⟩
  all_goals rw [H.out]
  all_goals (simp only [beq_iff_eq, beq_eq_false_iff_ne, ne_eq] at *)
  all_goals (congr 2; simp; omega)

set_option maxHeartbeats 400000 in
theorem hasControl_any (s : ByteArray) (w : World) (hs : s.size ≤ 140737488352000) :
    Calls Tryz.prog 54 #[.string s] w fun e w' => e = .returned (.bool (Blk.hasCtl s.data.toList)) ∧ w' = w := by
  go_enter Tryz.func54, Tryz.ntmps54
  go_wp2
  go_loop [3] (fun i => ∃ k : Nat, k ≤ s.size ∧ i = .int .i64 k ∧ Blk.hasCtl (s.data.toList.take k) = false) (fun i => s.size - (intOf i).toNat)
  case atStart => exact ⟨0, by omega, rfl, rfl⟩
  case round =>
    obtain ⟨k, hk, rfl, hn⟩ := hrel
    have HN := hide hn
    clear hn
    by_cases hlt : k < s.size
    · have HT := hide (take_snoc s k hlt)
      cases hc : Blk.isCtl s[k]
      · have HC := hide hc
        clear hc
        go_wp2_with (first | (go_at_call 69; refine (isControl_any s[k] _).mono ?_; rintro e w1 ⟨rfl, rfl⟩; rw [HC.out]))
        go_round
        case rel => exact ⟨k + 1, by omega, by go_num, by rw [HT.out, Blk.hasCtl_snoc, HN.out, HC.out]; rfl⟩
        case measure => simp [intOf]; omega
      · have HC := hide hc
        clear hc
        have HF : Hid (Blk.hasCtl s.data.toList = true) := Blk.hasCtl_take (k := k + 1) (by rw [HT.out, Blk.hasCtl_snoc, HC.out]; simp)
        go_wp2_with (first | (go_at_call 69; refine (isControl_any s[k] _).mono ?_; rintro e w1 ⟨rfl, rfl⟩; rw [HC.out]))
        go_ret
        exact ⟨by rw [HF.out]; rfl, rfl⟩
    · have HT : Hid (s.data.toList.take k = s.data.toList) := List.take_of_length_le (by simp; omega)
      go_wp2
      go_ret
      exact ⟨by rw [← HT.out, HN.out]; rfl, rfl⟩

theorem size_list (s : ByteArray) : s.data.toList.length = s.size := by simp

set_option maxHeartbeats 400000 in
theorem isHead_any (s : ByteArray) (w : World) (hs : s.size ≤ 140737488352000) :
    Calls Tryz.prog 41 #[.string s] w fun e w' => e = .returned (.bool (Blk.headOk s.data.toList)) ∧ w' = w := by
  have HH : Hid (Blk.headOk s.data.toList = (decide (s.size ≤ 8) && !Blk.hasCtl s.data.toList)) := by unfold Hid Blk.headOk; rw [size_list]
  by_cases h : s.size ≤ 8
  · have h' : (s.size : Int) ≤ 8 := by omega
    go_enter Tryz.func41, Tryz.ntmps41
    go_wp2_with (first | (go_at_call 54; refine (hasControl_any s _ hs).mono ?_; rintro e w1 ⟨rfl, rfl⟩))
    go_ret
    exact ⟨by rw [HH.out]; simp [h], rfl⟩
  · have h' : ¬ (s.size : Int) ≤ 8 := by omega
    go_enter Tryz.func41, Tryz.ntmps41
    go_wp2
    go_ret
    exact ⟨by rw [HH.out]; simp [h], rfl⟩

set_option maxHeartbeats 400000 in
theorem isText_any (s : ByteArray) (m : Nat) (c : Bool) (w : World) (hs : s.size ≤ 140737488352000) (_hm : m ≤ 1000) :
    Calls Tryz.prog 42 #[.string s, .int .i64 m, .bool c] w fun e w' => e = .returned (.bool (decide (s.data.toList.length ≤ m) && (c || !Blk.hasCtl s.data.toList))) ∧ w' = w := by
  rw [size_list]
  by_cases h : s.size ≤ m
  · have h' : (s.size : Int) ≤ (m : Int) := by omega
    cases c
    · go_enter Tryz.func42, Tryz.ntmps42
      go_wp2_with (first | (go_at_call 54; refine (hasControl_any s _ hs).mono ?_; rintro e w1 ⟨rfl, rfl⟩))
      go_ret
      exact ⟨by simp [h], rfl⟩
    · go_enter Tryz.func42, Tryz.ntmps42
      go_wp2
      go_ret
      exact ⟨by simp [h], rfl⟩
  · have h' : ¬ (s.size : Int) ≤ (m : Int) := by omega
    go_enter Tryz.func42, Tryz.ntmps42
    go_wp2
    go_ret
    exact ⟨by simp, rfl⟩

theorem isPart_any (s : ByteArray) (c : Bool) (w : World) (hs : s.size ≤ 140737488352000) :
    Calls Tryz.prog 42 #[.string s, .int .i64 32, .bool c] w fun e w' => e = .returned (.bool (Blk.partOk c s.data.toList)) ∧ w' = w := isText_any s 32 c w hs (by omega)

end Go.Proofs.YtlbpjcphhocdkabGreatDoor

namespace Go.Proofs.YtlbpjcphhocdkabGreatDoor
open Go.RowKit

/-- The list at the address a holds the texts l. -/
def Texts (w : World) (a : Option Addr) (l : List ByteArray) : Prop :=
  l = [] ∨ ∃ b o, a = some ⟨b, o, none⟩ ∧ ∀ i, i < l.length → w.cell? ⟨b, o + i, none⟩ = some (.string (l.getD i ByteArray.empty))

theorem Texts.below {w w' : World} {a : Option Addr} {l : List ByteArray} (h : Texts w a l) (hb : Below w.heap.size w w') : Texts w' a l := by
  rcases h with h | ⟨b, o, ha, h⟩
  · exact Or.inl h
  · refine Or.inr ⟨b, o, ha, fun i hi => ?_⟩
    have := h i hi
    rw [hb.cell (World.block_lt_of_cell? w _ this)]
    exact this

/-- Block g holds a block's four cells. -/
def BlkAt (w : World) (g : Nat) (h v c t : Value) : Prop := w.heap[g]? = some (.cells #[h, v, c, t] 89 (0, 0))
theorem BlkAt.cell0 {w : World} {g : Nat} {h v c t : Value} (k : BlkAt w g h v c t) : w.cell? ⟨g, 0, none⟩ = some h := by unfold BlkAt at k; simp [World.cell?, k]
theorem BlkAt.cell1 {w : World} {g : Nat} {h v c t : Value} (k : BlkAt w g h v c t) : w.cell? ⟨g, 1, none⟩ = some v := by unfold BlkAt at k; simp [World.cell?, k]
theorem BlkAt.cell2 {w : World} {g : Nat} {h v c t : Value} (k : BlkAt w g h v c t) : w.cell? ⟨g, 2, none⟩ = some c := by unfold BlkAt at k; simp [World.cell?, k]
theorem BlkAt.cell3 {w : World} {g : Nat} {h v c t : Value} (k : BlkAt w g h v c t) : w.cell? ⟨g, 3, none⟩ = some t := by unfold BlkAt at k; simp [World.cell?, k]
theorem BlkAt.new (w : World) (h v c t : Value) : BlkAt (w.alloc (.cells #[h, v, c, t] 89)) w.heap.size h v c t := heap_alloc_new w _
theorem BlkAt.below {w w' : World} {g B : Nat} {h v c t : Value} (k : BlkAt w g h v c t) (hb : Below B w w') (hg : g < B) : BlkAt w' g h v c t := (hb.block g hg).trans k

def datas (l : List ByteArray) : List (List UInt8) := l.map fun s => s.data.toList
theorem datas_length (l : List ByteArray) : (datas l).length = l.length := by simp [datas]
theorem datas_getD (l : List ByteArray) (i : Nat) : (datas l).getD i [] = (l.getD i ByteArray.empty).data.toList := by
  unfold datas
  simp only [List.getD, List.getElem?_map]
  cases l[i]? <;> rfl

theorem all_take_succ (f : List UInt8 → Bool) (l : List (List UInt8)) (k : Nat) (hk : k < l.length) : (l.take (k + 1)).all f = ((l.take k).all f && f (l.getD k [])) := by
  rw [List.take_succ_eq_append_getElem hk, List.all_append]
  simp [List.getD, List.getElem?_eq_getElem hk]

set_option maxHeartbeats 1000000 in
theorem blockError_any (h : ByteArray) (a : Option Addr) (l : List ByteArray) (cap : Nat) (c t : Bool) (w : World)
    (hh : h.size ≤ 140737488352000) (hl : ∀ s ∈ l, s.size ≤ 140737488352000) (hn : l.length ≤ 140737488352000) (ht : Texts w a l) :
    Calls Tryz.prog 96 #[.agg #[.string h, .slice a l.length cap, .bool c, .bool t]] w fun e w' => e = .returned (.int .i64 (Blk.berr h.data.toList (datas l) c)) ∧ Below w.heap.size w w' := by
  by_cases hk : Blk.headOk h.data.toList = false
  · have HE : Hid (Blk.berr h.data.toList (datas l) c = 2) := by simp [Hid, Blk.berr, hk]
    have HK := hide hk
    clear hk
    go_enter Tryz.func96, Tryz.ntmps96
    go_wp2_with (first | (go_at_call 41; refine (isHead_any h _ hh).mono ?_; rintro e w1 ⟨rfl, rfl⟩; rw [HK.out]))
    go_ret
    exact ⟨by rw [HE.out]; rfl, (Below.refl _ _).alloc (Nat.le_refl _) _⟩
  · have hk : Blk.headOk h.data.toList = true := by simpa using hk
    have HK := hide hk
    by_cases hp : l.length < 1 ∨ 4 < l.length
    · have HE : Hid (Blk.berr h.data.toList (datas l) c = 3) := by simp only [Hid, Blk.berr, hk, datas_length]; rw [if_neg (by simp), if_pos hp]
      clear hk
      rcases hp with hp | hp
      · have hp' : (l.length : Int) < 1 := by omega
        go_enter Tryz.func96, Tryz.ntmps96
        go_wp2_with (first | (go_at_call 41; refine (isHead_any h _ hh).mono ?_; rintro e w1 ⟨rfl, rfl⟩; rw [HK.out]))
        go_ret
        exact ⟨by rw [HE.out]; rfl, (Below.refl _ _).alloc (Nat.le_refl _) _⟩
      · have hp1 : ¬ (l.length : Int) < 1 := by omega
        have hp2 : 4 < (l.length : Int) := by omega
        go_enter Tryz.func96, Tryz.ntmps96
        go_wp2_with (first | (go_at_call 41; refine (isHead_any h _ hh).mono ?_; rintro e w1 ⟨rfl, rfl⟩; rw [HK.out]))
        go_ret
        exact ⟨by rw [HE.out]; rfl, (Below.refl _ _).alloc (Nat.le_refl _) _⟩
    · have hp1 : ¬ (l.length : Int) < 1 := by omega
      have hp2 : ¬ 4 < (l.length : Int) := by omega
      have HE : Hid (Blk.berr h.data.toList (datas l) c = if (datas l).all (Blk.partOk c) = false then 4 else 0) := by simp only [Hid, Blk.berr, hk, datas_length]; rw [if_neg (by simp), if_neg hp]
      clear hk hp
      obtain ⟨b, o, rfl, hcell⟩ : ∃ b o, a = some ⟨b, o, none⟩ ∧ ∀ i, i < l.length → w.cell? ⟨b, o + i, none⟩ = some (.string (l.getD i ByteArray.empty)) := by
        rcases ht with h | h
        · subst h; simp at hp1
        · exact h
      clear ht
      have HCL := hide hcell
      clear hcell
      have d1 : decide ((l.length : Int) < 1) = false := by simp; omega
      have d2 : decide (4 < (l.length : Int)) = false := by simp; omega
      go_enter Tryz.func96, Tryz.ntmps96
      go_wp2_with (first | (go_at_call 41; refine (isHead_any h _ hh).mono ?_; rintro e w1 ⟨rfl, rfl⟩; rw [HK.out]))
      go_loopw [3] (fun i wr => ∃ k : Nat, k ≤ l.length ∧ i = .int .i64 k ∧ ((datas l).take k).all (Blk.partOk c) = true ∧ BlkAt wr w.heap.size (.string h) (.slice (some ⟨b, o, none⟩) l.length cap) (.bool c) (.bool t) ∧ Below w.heap.size w wr) (fun i _ => l.length - (intOf i).toNat)
      case atStart => exact ⟨0, by omega, rfl, by simp, BlkAt.new _ _ _ _ _, (Below.refl _ _).alloc (Nat.le_refl _) _⟩
      case round =>
        obtain ⟨k, hk2, rfl, hall, hblk, hbel⟩ := hrel
        have HA := hide hall
        have c1 := hblk.cell1
        have c2 := hblk.cell2
        clear hall
        by_cases hlt : k < l.length
        · have hcl := HCL.out k hlt
          have hb := World.block_lt_of_cell? w _ hcl
          rw [← hbel.cell hb] at hcl
          have hsz : (l.getD k ByteArray.empty).size ≤ 140737488352000 := by
            have : l.getD k ByteArray.empty = l[k] := by simp [List.getD, List.getElem?_eq_getElem hlt]
            rw [this]; exact hl _ (List.getElem_mem hlt)
          have HT := hide (all_take_succ (Blk.partOk c) (datas l) k (by rw [datas_length]; exact hlt))
          rw [datas_getD] at HT
          generalize l.getD k ByteArray.empty = s at *
          have hlt' : (k : Int) < (l.length : Int) := by omega
          cases hpo : Blk.partOk c s.data.toList
          · have HPO := hide hpo
            have HF : Hid ((datas l).all (Blk.partOk c) = false) := by
              have h1 : ((datas l).take (k + 1)).all (Blk.partOk c) = false := by rw [HT.out, hpo]; simp
              cases h2 : (datas l).all (Blk.partOk c)
              · rfl
              · have h3 := List.all_eq_true.1 h2
                have h4 : ((datas l).take (k + 1)).all (Blk.partOk c) = true := List.all_eq_true.2 fun x hx => h3 x (List.mem_of_mem_take hx)
                rw [h1] at h4; cases h4
            go_wp2
            go_quiet ((go_at_call 42; exact Calls.quiet_of_same (isPart_any _ _ _ hsz)))
            go_wp2
            go_ret
            refine ⟨?_, below_drewN hbel _⟩
            rw [HE.out, HF.out]
            rfl
          · have HPO := hide hpo
            go_wp2
            go_quiet ((go_at_call 42; exact Calls.quiet_of_same (isPart_any _ _ _ hsz)))
            go_wp2
            go_roundw
            case rel => exact ⟨k + 1, by omega, by go_num, by rw [HT.out, HA.out, HPO.out]; rfl, hblk, below_drewN hbel _⟩
            case measure => simp [intOf]; omega
        · obtain rfl : k = l.length := by omega
          have hlt' : ¬ (l.length : Int) < (l.length : Int) := by omega
          go_wp2
          go_ret
          refine ⟨?_, hbel⟩
          have hal : (datas l).all (Blk.partOk c) = true := by
            have := HA.out
            rw [List.take_of_length_le (by rw [datas_length]; omega)] at this
            exact this
          rw [HE.out, hal]
          rfl
end Go.Proofs.YtlbpjcphhocdkabGreatDoor

namespace Go.Proofs.YtlbpjcphhocdkabGreatDoor
open Go.RowKit

theorem txt_snoc_two (l : List UInt8) (u : UInt8) (h : u.toNat = 16) : Blk.txt true (l ++ [u]) = Blk.txt true l ++ [16] ++ [u] := by
  have e : u = 16 := UInt8.toNat_inj.1 h
  subst e
  simp [Blk.txt, Blk.dbl_snoc]
theorem txt_snoc_one (l : List UInt8) (u : UInt8) (h : ¬ u.toNat = 16) : Blk.txt true (l ++ [u]) = Blk.txt true l ++ [u] := by simp [Blk.txt, Blk.dbl_snoc, h]
theorem txt_snoc_no (l : List UInt8) (u : UInt8) : Blk.txt false (l ++ [u]) = Blk.txt false l ++ [u] := by simp [Blk.txt]

set_option maxHeartbeats 1000000 in
theorem written_any (s : ByteArray) (c : Bool) (w : World) (hs : s.size ≤ 1000000000) :
    Calls Tryz.prog 114 #[.string s, .bool c] w fun e w' => e = .returned (.string ⟨(Blk.txt c s.data.toList).toArray⟩) ∧ Below w.heap.size w w' := by
  go_enter Tryz.func114, Tryz.ntmps114
  go_wp2
  go_loopw [5, 6] (fun v i wr => ∃ k : Nat, k ≤ s.size ∧ i = .int .i64 k ∧ OwnB wr w.heap.size v (Blk.txt c (s.data.toList.take k)) ∧ Below w.heap.size w wr) (fun _ i _ => s.size - (intOf i).toNat)
  case atStart => exact ⟨0, by omega, rfl, by cases c <;> exact ownB_lit w w.heap.size #[] [] rfl (Nat.le_refl _) (by decide), (Below.refl _ _).alloc (Nat.le_refl _) _⟩
  case round =>
    obtain ⟨k, hk, rfl, hown, hbel⟩ := hrel
    have hB := hbel.size
    by_cases hlt : k < s.size
    · have HT := hide (take_snoc s k hlt)
      have hlen := Blk.txt_length c (s.data.toList.take k)
      have htl : (s.data.toList.take k).length ≤ k := List.length_take_le _ _
      have HLen : Hid ((Blk.txt c (s.data.toList.take k)).length ≤ 2000000000) := by unfold Hid; omega
      clear hlen htl
      cases c
      · have HS := hide (txt_snoc_no (s.data.toList.take k) s[k])
        go_wp2_with (first | (at_builtin; refine app_one _ s[k] _ rfl rfl (.tmp 24) (.tmp 28) rfl w.heap.size _ _ _ 1 rfl rfl rfl hown (by have := HLen.out; omega) w hbel hB ?_; intro v1 W1 hown1 hbel1 hB1))
        go_roundw
        case rel => exact ⟨k + 1, by omega, by go_num, by rw [HT.out, HS.out]; assumption, by assumption⟩
        case measure => simp [intOf]; omega
      · by_cases h16 : s[k].toNat = 16
        · have HS := hide (txt_snoc_two (s.data.toList.take k) s[k] h16)
          have hd : ((s[k].toNat : Int) == 16) = true := by simp [h16]
          clear h16
          go_wp2_with (first | (at_builtin; refine app_one _ 16 16 (by rfl) rfl (.tmp 21) (.tmp 22) rfl w.heap.size _ _ _ 1 rfl rfl rfl hown (by have := HLen.out; omega) w hbel hB ?_; intro v1 W1 hown1 hbel1 hB1) | (at_builtin; refine app_one _ s[k] _ rfl rfl (.tmp 24) (.tmp 28) rfl w.heap.size _ _ _ 1 rfl rfl rfl hown1 (by have := HLen.out; simp; omega) w hbel1 hB1 ?_; intro v2 W2 hown2 hbel2 hB2))
          go_roundw
          case rel => exact ⟨k + 1, by omega, by go_num, by rw [HT.out, HS.out]; assumption, by assumption⟩
          case measure => simp [intOf]; omega
        · have HS := hide (txt_snoc_one (s.data.toList.take k) s[k] h16)
          have hd : ((s[k].toNat : Int) == 16) = false := by simp; omega
          clear h16
          go_wp2_with (first | (at_builtin; refine app_one _ s[k] _ rfl rfl (.tmp 24) (.tmp 28) rfl w.heap.size _ _ _ 1 rfl rfl rfl hown (by have := HLen.out; omega) w hbel hB ?_; intro v1 W1 hown1 hbel1 hB1))
          go_roundw
          case rel => exact ⟨k + 1, by omega, by go_num, by rw [HT.out, HS.out]; assumption, by assumption⟩
          case measure => simp [intOf]; omega
    · have HT : Hid (s.data.toList.take k = s.data.toList) := List.take_of_length_le (by simp; omega)
      rw [HT.out] at hown
      have cv := conv_own _ _ _ _ hown
      go_wp2
      go_ret
      exact ⟨rfl, hbel⟩

theorem ownB_lit_at (w : World) (B g : Nat) (hg : g = w.heap.size) (cs : Array Value) (l : List UInt8) (hc : cs.toList = bcells l) (hB : B ≤ w.heap.size) (hl : l.length ≤ 1000) :
    OwnB (w.alloc (.cells cs 5)) B (.slice (some ⟨g, 0, none⟩) l.length l.length) l := by
  subst hg; exact ownB_lit w B cs l hc hB hl

theorem openL_ff (h : List UInt8) (hn : h = []) : Blk.openL h false = [] ++ [2] := by simp [Blk.openL, hn]
theorem openL_ft (h : List UInt8) (hn : h = []) : Blk.openL h true = [] ++ [16] ++ [2] := by simp [Blk.openL, hn]
theorem openL_tf (h : List UInt8) (hn : ¬ h = []) : Blk.openL h false = [] ++ [1] ++ h ++ [2] := by simp [Blk.openL, hn]
theorem openL_tt (h : List UInt8) (hn : ¬ h = []) : Blk.openL h true = [] ++ [1] ++ h ++ [16] ++ [2] := by simp [Blk.openL, hn]

set_option maxHeartbeats 1000000 in
theorem opening_any (h : ByteArray) (a : Option Addr) (n cap : Nat) (c t : Bool) (w : World) (hh : h.size ≤ 140737488352000) :
    Calls Tryz.prog 111 #[.agg #[.string h, .slice a n cap, .bool c, .bool t]] w fun e w' => e = .returned (.string ⟨(Blk.openL h.data.toList c).toArray⟩) ∧ Below w.heap.size w w' := by
  have hblk := BlkAt.new w (.string h) (.slice a n cap) (.bool c) (.bool t)
  have hl := ownB_lit_at (w.alloc (.cells #[.string h, .slice a n cap, .bool c, .bool t] 89)) (w.heap.size + 1) (w.heap.size + 1) (by simp) #[] [] rfl (by simp) (by decide)
  have hb0 : Below (w.heap.size + 1) (w.alloc (.cells #[.string h, .slice a n cap, .bool c, .bool t] 89)) ((w.alloc (.cells #[.string h, .slice a n cap, .bool c, .bool t] 89)).alloc (.cells #[] 5)) := (Below.refl _ _).alloc (by simp) _
  have fin : ∀ W, Below (w.heap.size + 1) (w.alloc (.cells #[.string h, .slice a n cap, .bool c, .bool t] 89)) W → Below w.heap.size w W := fun W hW => ((Below.refl _ _).alloc (Nat.le_refl _) _).trans (hW.mono (by omega))
  have FIN := hide fin
  have HBK := hide hblk
  clear fin hblk
  have hsz := size_list h
  have HSZ := hide hsz
  clear hsz
  by_cases hn : h.data.toList = []
  · have hE : h.toList.isEmpty = true := by rw [ByteArray.toList_eq]; simp [hn]
    cases c
    · have HO := hide (openL_ff _ hn)
      clear hn
      go_enter Tryz.func111, Tryz.ntmps111
      go_wp2_with (first | (at_builtin; refine app_one _ 2 2 (by rfl) rfl (.tmp 20) (.tmp 21) rfl (w.heap.size + 1) _ _ _ 1 rfl rfl (by simp) hl (by simp) _ hb0 (by simp) ?_; intro v1 W1 hown1 hbel1 hB1; have cv := conv_own _ _ _ _ hown1))
      go_ret
      exact ⟨by rw [HO.out]; rfl, FIN.out _ (by assumption)⟩
    · have HO := hide (openL_ft _ hn)
      clear hn
      go_enter Tryz.func111, Tryz.ntmps111
      go_wp2_with (first | (at_builtin; refine app_one _ 16 16 (by rfl) rfl (.tmp 17) (.tmp 18) rfl (w.heap.size + 1) _ _ _ 1 rfl rfl (by simp) hl (by simp) _ hb0 (by simp) ?_; intro v1 W1 hown1 hbel1 hB1) | (at_builtin; refine app_one _ 2 2 (by rfl) rfl (.tmp 20) (.tmp 21) rfl (w.heap.size + 1) _ _ _ 1 rfl rfl rfl hown1 (by simp) _ hbel1 hB1 ?_; intro v2 W2 hown2 hbel2 hB2; have cv := conv_own _ _ _ _ hown2))
      go_ret
      exact ⟨by rw [HO.out]; rfl, FIN.out _ (by assumption)⟩
  · have hE : h.toList.isEmpty = false := by rw [ByteArray.toList_eq]; simpa using hn
    cases c
    · have HO := hide (openL_tf _ hn)
      clear hn
      go_enter Tryz.func111, Tryz.ntmps111
      go_wp2_with (first | (at_builtin; refine app_one _ 1 1 (by rfl) rfl (.tmp 8) (.tmp 9) rfl (w.heap.size + 1) _ _ _ 1 rfl rfl (by simp) hl (by simp) _ hb0 (by simp) ?_; intro v1 W1 hown1 hbel1 hB1; have d0 := (HBK.out.below hbel1 (by omega)).cell0) | (at_builtin; refine app_str _ rfl (.tmp 11) (.tmp 13) rfl (w.heap.size + 1) _ _ h rfl rfl hown1 (by simp; omega) _ hbel1 hB1 ?_; intro v2 W2 hown2 hbel2 hB2; have d2 := (HBK.out.below hbel2 (by omega)).cell2) | (at_builtin; refine app_one _ 2 2 (by rfl) rfl (.tmp 20) (.tmp 21) rfl (w.heap.size + 1) _ _ _ 1 rfl rfl rfl hown2 (by simp [HSZ.out]; omega) _ hbel2 hB2 ?_; intro v3 W3 hown3 hbel3 hB3; have cv := conv_own _ _ _ _ hown3))
      go_ret
      exact ⟨by rw [HO.out]; rfl, FIN.out _ (by assumption)⟩
    · have HO := hide (openL_tt _ hn)
      clear hn
      go_enter Tryz.func111, Tryz.ntmps111
      go_wp2_with (first | (at_builtin; refine app_one _ 1 1 (by rfl) rfl (.tmp 8) (.tmp 9) rfl (w.heap.size + 1) _ _ _ 1 rfl rfl (by simp) hl (by simp) _ hb0 (by simp) ?_; intro v1 W1 hown1 hbel1 hB1; have d0 := (HBK.out.below hbel1 (by omega)).cell0) | (at_builtin; refine app_str _ rfl (.tmp 11) (.tmp 13) rfl (w.heap.size + 1) _ _ h rfl rfl hown1 (by simp; omega) _ hbel1 hB1 ?_; intro v2 W2 hown2 hbel2 hB2; have d2 := (HBK.out.below hbel2 (by omega)).cell2) | (at_builtin; refine app_one _ 16 16 (by rfl) rfl (.tmp 17) (.tmp 18) rfl (w.heap.size + 1) _ _ _ 1 rfl rfl rfl hown2 (by simp [HSZ.out]; omega) _ hbel2 hB2 ?_; intro v3 W3 hown3 hbel3 hB3) | (at_builtin; refine app_one _ 2 2 (by rfl) rfl (.tmp 20) (.tmp 21) rfl (w.heap.size + 1) _ _ _ 1 rfl rfl rfl hown3 (by simp [HSZ.out]; omega) _ hbel3 hB3 ?_; intro v4 W4 hown4 hbel4 hB4; have cv := conv_own _ _ _ _ hown4))
      go_ret
      exact ⟨by rw [HO.out]; simp, FIN.out _ (by assumption)⟩

end Go.Proofs.YtlbpjcphhocdkabGreatDoor

namespace Go.Proofs.YtlbpjcphhocdkabGreatDoor
open Go.RowKit

/-- The slice value v, among the blocks from B on, is a conversion's row and holds just the bytes l. -/
def CnvB (w : World) (B : Nat) (v : Value) (l : List UInt8) : Prop :=
  ∃ g cap cur, v = .slice (some ⟨g, 0, none⟩) l.length cap ∧ B ≤ g ∧ w.heap[g]? = some (.cells cur 5 (cur.size, cur.size + 1)) ∧ cur.size = cap ∧ l.length ≤ cap ∧ cur.toList.take l.length = bcells l

theorem cnv_new (w : World) (B : Nat) (s : ByteArray) (hB : B ≤ w.heap.size) :
    CnvB (Go.Lib.bytesWorld w 5 s) B (.slice (some ⟨w.heap.size, 0, none⟩) s.size (grownCap w s.size 0 5)) s.data.toList := by
  have hge := grownCap_ge w s.size 0 5
  have hl : s.data.toList.length = s.size := by simp
  have hcs : (Go.Lib.bytesCells w 5 s).size = grownCap w s.size 0 5 := by
    unfold Go.Lib.bytesCells
    have : s.data.size = s.size := rfl
    simp [this]
    omega
  refine ⟨w.heap.size, _, Go.Lib.bytesCells w 5 s, by rw [hl], hB, Go.Lib.bytesWorld_at_new w 5 s, hcs, by omega, ?_⟩
  rw [hl]
  unfold Go.Lib.bytesCells bcells
  have : (s.data.toList.map fun b => Value.int .u8 (b.toNat : Int)).length = s.size := by simp
  simp only [Array.toList_append, Array.toList_map]
  rw [← this]
  exact List.take_left

theorem cnv_run (w : World) (s : ByteArray) : (convert 9 110 (.string s)).run Tryz.prog w = .ok (.slice (some ⟨w.heap.size, 0, none⟩) s.size (grownCap w s.size 0 5)) (Go.Lib.bytesWorld w 5 s) :=
  Go.Lib.run_convert_string_bytes (P := Tryz.prog) w 9 110 5 s Tryz.underlying9 Tryz.underlying110 Tryz.underlying5

theorem cnv_below (w : World) (s : ByteArray) : Below w.heap.size w (Go.Lib.bytesWorld w 5 s) :=
  ⟨rfl, rfl, rfl, by rw [Go.Lib.bytesWorld_size]; omega, fun j hj => Go.Lib.bytesWorld_at_old w 5 s j hj⟩

theorem CnvB.cell {w : World} {B : Nat} {v : Value} {l : List UInt8} (h : CnvB w B v l) :
    ∃ g cap, v = .slice (some ⟨g, 0, none⟩) l.length cap ∧ B ≤ g ∧ g < w.heap.size ∧ ∀ j (hj : j < l.length), w.cell? ⟨g, j, none⟩ = some (.int .u8 (l[j].toNat : Int)) ∧ w.frozen? ⟨g, j, none⟩ = false := by
  obtain ⟨g, cap, cur, rfl, hB, hg, hc, hl, ht⟩ := h
  refine ⟨g, cap, rfl, hB, lt_of_block hg, fun j hj => ⟨?_, ?_⟩⟩
  · rw [cell_of_row _ _ _ _ _ _ hg]
    have : (cur.toList.take l.length)[j]? = (bcells l)[j]? := by rw [ht]
    rw [List.getElem?_take_of_lt hj] at this
    simp [bcells, List.getElem?_eq_getElem hj] at this
    simpa using this
  · simp only [World.frozen?, hg, Bool.and_eq_false_iff, decide_eq_false_iff_not]
    left
    omega

theorem conv_cells (W : World) (g cap : Nat) (l : List UInt8) (hc : ∀ j (hj : j < l.length), W.cell? ⟨g, j, none⟩ = some (.int .u8 (l[j].toNat : Int))) :
    (convert 110 9 (.slice (some ⟨g, 0, none⟩) l.length cap)).run Tryz.prog W = .ok (.string ⟨l.toArray⟩) W := by
  refine run_convert_bytes_back W 110 9 5 ⟨g, 0, none⟩ cap l Tryz.underlying110 Tryz.underlying5 Tryz.underlying9 ?_
  intro j hj
  have e : (⟨g, 0, none⟩ : Addr).add j = ⟨g, j, none⟩ := by simp [Addr.add_lit]
  rw [e]
  exact hc j hj

section
variable {ops : Array Oper} {rest : List Oper} {o : Oper} {a : Act} {Q : Exit → Act → World → Prop}

/-- One byte behind it: what comes out is as a string those bytes and this one. -/
theorem app_cnv (W : World) (c : UInt8) (n : Int) (hn : n = (c.toNat : Int)) (hgd : o.guard = none) (sl x : Operand)
    (ho : o.op = .call { callee := .builtin .append, args := #[sl, x], argTypes := #[110, 110] })
    (B : Nat) (v : Value) (l : List UInt8) (g cp : Nat) (hs : a.eval sl = v) (hx : a.eval x = .slice (some ⟨g, 0, none⟩) 1 cp) (hg0 : g = W.heap.size) (hown : CnvB W B v l)
    (hlen : l.length + 1 ≤ 140737488355328) (w0 : World) (hbel : Below B w0 W) (hB : B ≤ W.heap.size)
    (h : ∀ v' W', (convert 110 9 v').run Tryz.prog W' = .ok (.string ⟨(l ++ [c]).toArray⟩) W' → Below B w0 W' → wpList Tryz.prog ops Q rest (a.put o.dst v') W') :
    wpList Tryz.prog ops Q (o :: rest) a (W.alloc (.cells #[.int .u8 n] 5)) := by
  obtain ⟨i0, hi, hz0, hz1, hz2⟩ := info_parts Tryz.infoU8
  subst hn hg0
  obtain ⟨g, cap, cur, rfl, hBg, hg, hc, hl, ht⟩ := hown
  have hglt := lt_of_block hg
  have hg1 : (W.alloc (.cells #[.int .u8 (c.toNat : Int)] 5)).heap[g]? = some (.cells cur 5 (cur.size, cur.size + 1)) := (Below.heap_alloc _ _ _ hglt).trans hg
  have hnew : ∀ j u, ([Value.int .u8 (c.toNat : Int)])[j]? = some u → (W.alloc (.cells #[.int .u8 (c.toNat : Int)] 5)).cell? ((⟨W.heap.size, 0, none⟩ : Addr).add j) = some u := cell_one_new _ _ _
  have hbel1 : Below B w0 (W.alloc (.cells #[.int .u8 (c.toNat : Int)] 5)) := hbel.alloc hB _
  generalize hW1 : W.alloc (.cells #[.int .u8 (c.toNat : Int)] 5) = W1 at *
  refine wpList_plain hgd fun K hK => ?_
  have key : ∃ v' W', (Builtin.append_ #[110, 110] o.type #[.slice (some ⟨g, 0, none⟩) l.length cap, .slice (some ⟨W.heap.size, 0, none⟩) 1 cp]).run Tryz.prog W1 = .ok v' W' ∧ (convert 110 9 v').run Tryz.prog W' = .ok (.string ⟨(l ++ [c]).toArray⟩) W' ∧ Below B w0 W' := by
    by_cases hroom : l.length + 1 ≤ cap
    · have hi1 : l.length < cur.size := by omega
      have hcell : W1.cell? ⟨g, l.length, none⟩ = some cur[l.length] := by simp [World.cell?, hg1, hi1]
      have hfro : W1.frozen? ⟨g, l.length, none⟩ = false := by
        simp only [World.frozen?, hg1, Bool.and_eq_false_iff, decide_eq_false_iff_not]
        left; omega
      have hst : (store ⟨g, l.length, none⟩ (.int .u8 (c.toNat : Int))).run Tryz.prog W1 = .ok () (W1.setCell ⟨g, l.length, none⟩ (.int .u8 (c.toNat : Int))) := by
        rw [run_store Tryz.prog W1 _ _ _ (by rfl), hcell]
        simp [hfro]
      have hss : (storeCells ⟨g, l.length, none⟩ [.int .u8 (c.toNat : Int)] 0).run Tryz.prog W1 = .ok () (W1.setCell ⟨g, l.length, none⟩ (.int .u8 (c.toNat : Int))) := by
        have e : (⟨g, l.length, none⟩ : Addr).add 0 = ⟨g, l.length, none⟩ := by simp [Addr.add_lit]
        simp only [storeCells, Sem.run_bind, e, hst, Result.andThen_ok]
        rfl
      have hf := run_firstCells_some (P := Tryz.prog) W1 i0.size 1 ⟨W.heap.size, 0, none⟩ 1 cp [.int .u8 (c.toNat : Int)] (by rw [hz1]; rfl) hnew
      have hr : (Builtin.append_ #[110, 110] o.type #[.slice (some ⟨g, 0, none⟩) l.length cap, .slice (some ⟨W.heap.size, 0, none⟩) 1 cp]).run Tryz.prog W1 = .ok (.slice (some ⟨g, 0, none⟩) (l.length + 1) cap) (W1.setCell ⟨g, l.length, none⟩ (.int .u8 (c.toNat : Int))) := by
        rw [hz1] at hf
        simp [Builtin.append_, run_underlying Tryz.underlying110, sizeOf, typeInfo, hi, hz1, Builtin.lenOf, hroom, hf, Addr.add_lit, hss]
      refine ⟨_, _, hr, ?_, hbel1.setCell hBg _⟩
      have hb2 : (W1.setCell ⟨g, l.length, none⟩ (.int .u8 (c.toNat : Int))).heap[g]? = some (.cells (cur.setIfInBounds l.length (.int .u8 (c.toNat : Int))) 5 (cur.size, cur.size + 1)) := by
        simp [World.setCell, Array.getElem?_modify, hg1]
      have hlen2 : l.length + 1 = (l ++ [c]).length := by simp
      rw [hlen2]
      refine conv_cells _ g cap (l ++ [c]) fun j hj => ?_
      rw [cell_of_row _ _ _ _ _ _ hb2]
      by_cases hjl : j < l.length
      · have : (cur.toList.take l.length)[j]? = (bcells l)[j]? := by rw [ht]
        rw [List.getElem?_take_of_lt hjl] at this
        simp [bcells, List.getElem?_eq_getElem hjl] at this
        rw [List.getElem_append_left hjl, Array.getElem?_setIfInBounds_ne (by omega)]
        simpa using this
      · have hje : j = l.length := by simp at hj; omega
        subst hje
        simp [hi1]
    · have holds : ∀ j u, (bcells l)[j]? = some u → W1.cell? ((⟨g, 0, none⟩ : Addr).add j) = some u := by
        intro j u hu
        have e : (⟨g, 0, none⟩ : Addr).add j = ⟨g, j, none⟩ := by simp [Addr.add_lit]
        rw [e, cell_of_row _ _ _ _ _ _ hg1]
        rw [← ht, List.getElem?_take] at hu
        split at hu
        · simpa using hu
        · cases hu
      have hr := run_append_grow (P := Tryz.prog) W1 110 o.type 5 i0 (.int .u8 0) Tryz.underlying110 hi hz0 ⟨g, 0, none⟩ l.length cap (bcells l) (by rw [hz1, bcells_length]; omega) holds ⟨W.heap.size, 0, none⟩ 1 cp [.int .u8 (c.toNat : Int)] (by rw [hz1]; rfl) hnew (by omega) (by omega) (by rw [hz2]; exact growslice_fits (by omega) (by omega))
      refine ⟨_, _, hr, ?_, ?_⟩
      · have hlen2 : l.length + 1 = (l ++ [c]).length := by simp
        have hnb := heap_alloc_new W1.drew (.cells ((bcells l).toArray ++ ([Value.int .u8 (c.toNat : Int)]).toArray ++ Builtin.zeroCells (Value.int .u8 0).cells (grownCap W1 (l.length + 1) cap 5 - (l.length + 1))) 5)
        have hsz : W1.drew.heap.size = W1.heap.size := rfl
        rw [hsz] at hnb
        have hcv := conv_cells _ W1.heap.size (grownCap W1 (l.length + 1) cap 5) (l ++ [c]) (fun j hj => by
          rw [cell_of_row _ _ _ _ _ _ hnb]
          have hbc : (bcells l).toArray ++ ([Value.int .u8 (c.toNat : Int)]).toArray = (bcells (l ++ [c])).toArray := by rw [bcells_append]; simp [bcells]
          rw [hbc, Array.getElem?_append_left (by simpa [bcells_length] using hj)]
          rw [List.getElem?_toArray]
          unfold bcells
          rw [List.getElem?_map, List.getElem?_eq_getElem hj]
          rfl)
        rw [← hlen2] at hcv
        exact hcv
      · have hB1 : B ≤ W1.heap.size := Nat.le_trans hBg (Nat.le_of_lt (lt_of_block hg1))
        have hd : Below B w0 W1.drew := ⟨hbel1.os, hbel1.tape, hbel1.output, hbel1.size, hbel1.block⟩
        exact hd.alloc hB1 _
  obtain ⟨v', W', hr, hcv, hb⟩ := key
  unfold Oper.wp execOp
  simp only [ho, resolve, invoke, builtin, Sem.run_bind, Sem.run_pure, Result.andThen_ok, List.map_toArray, List.map_cons, List.map_nil, hs, hx, hr]
  exact hK _ _ (h v' W' hcv hb)
end
end Go.Proofs.YtlbpjcphhocdkabGreatDoor

namespace Go.Proofs.YtlbpjcphhocdkabGreatDoor
open Go.RowKit

set_option maxHeartbeats 400000 in
theorem shortBody_any (k : Int) (w : World) :
    Calls Tryz.prog 99 #[.int .i64 k] w fun e w' => e = .returned (.string ⟨(sbody k).toArray⟩) ∧ Below w.heap.size w w' := by
  have c1 := conv_lit1
  have c2 := conv_lit2
  go_enter Tryz.func99, Tryz.ntmps99
  go_wp2
  all_goals go_ret
  all_goals refine ⟨?_, by first | exact Below.refl _ _ | exact (Below.refl _ _).alloc (Nat.le_refl _) _⟩
  all_goals (simp only [beq_iff_eq, beq_eq_false_iff_ne, ne_eq] at *)
  all_goals simp [sbody, *]
  all_goals rfl

set_option maxHeartbeats 400000 in
theorem padded_any (s : ByteArray) (w : World) (hs : s.size ≤ 140737488352000) :
    Calls Tryz.prog 98 #[.string s] w fun e w' => e = .returned (.string ⟨(s.data.toList ++ [255]).toArray⟩) ∧ Below w.heap.size w w' := by
  have hl := cnv_new w w.heap.size s (Nat.le_refl _)
  have kc := cnv_run w s
  have hb0 := cnv_below w s
  have hz := Go.Lib.bytesWorld_size w 5 s
  have hz2 : s.data.toList.length = s.size := by simp
  generalize Go.Lib.bytesWorld w 5 s = W0 at *
  generalize grownCap w s.size 0 5 = cp at *
  go_enter Tryz.func98, Tryz.ntmps98
  go_wp2_with (first | (at_builtin; refine app_cnv _ 255 255 (by rfl) rfl (.tmp 6) (.tmp 7) rfl w.heap.size _ _ _ 1 rfl rfl (by first | rfl | omega) hl (by omega) w hb0 (by omega) ?_; intro v2 W2 hcv hbel2))
  go_ret
  exact ⟨rfl, by assumption⟩

theorem pad_size (s : ByteArray) : (⟨(s.data.toList ++ [255]).toArray⟩ : ByteArray).size = s.size + 1 := by
  show (s.data.toList ++ [255]).toArray.size = s.data.size + 1
  rw [List.size_toArray, List.length_append, Array.length_toList]
  rfl
theorem pad_wrap (s : ByteArray) : [22, 22] ++ (⟨(s.data.toList ++ [255]).toArray⟩ : ByteArray).data.toList = [22, 22] ++ s.data.toList ++ [255] := by simp

set_option maxHeartbeats 400000 in
theorem transmission_any (s : ByteArray) (w : World) (hs : s.size ≤ 140737488352000) :
    Calls Tryz.prog 122 #[.string s] w fun e w' => e = .returned (.string ⟨([22, 22] ++ s.data.toList ++ [255]).toArray⟩) ∧ Below w.heap.size w w' := by
  have hl := ownB_lit w w.heap.size #[.int .u8 22, .int .u8 22] [22, 22] rfl (Nat.le_refl _) (by decide)
  have hb0 : Below w.heap.size w (w.alloc (.cells #[.int .u8 22, .int .u8 22] 5)) := (Below.refl _ _).alloc (Nat.le_refl _) _
  have HP := hide (pad_wrap s)
  have hz2 : (⟨(s.data.toList ++ [255]).toArray⟩ : ByteArray).size = s.size + 1 := pad_size s
  rw [← HP.out]
  generalize hr : (⟨(s.data.toList ++ [255]).toArray⟩ : ByteArray) = r at *
  have HR := hide hr
  clear hr
  go_enter Tryz.func122, Tryz.ntmps122
  go_wp2_with (first | (go_at_call 98; refine (padded_any s _ hs).mono ?_; rintro e w1 ⟨rfl, hb1⟩; rw [HR.out]; have hl1 := OwnB.below hl hb1 (by simp)) | (at_builtin; refine app_str _ rfl (.tmp 8) (.tmp 9) rfl w.heap.size _ [22, 22] r rfl rfl hl1 (by simp; omega) w (below_step hb0 hb1) (by have := hb1.size; simp at this; omega) ?_; intro v2 W2 hown2 hbel2 hB2; have c := conv_own _ _ _ _ hown2))
  go_ret
  exact ⟨rfl, by assumption⟩

/-- P4: the transmission of a kind, and the error. -/
def shortS (k : Int) : List UInt8 := if sbody k = [] then [] else [22, 22] ++ sbody k ++ [255]
def shortE (k : Int) : Int := if sbody k = [] then 5 else 0

theorem sbody_size (k : Int) : (sbody k).length ≤ 2 := by unfold sbody; (repeat' split) <;> simp

set_option maxHeartbeats 400000 in
theorem short_any (k : Int) (w : World) :
    Calls Tryz.prog 106 #[.int .i64 k] w fun e w' => e = .returned (.tuple #[.string ⟨(shortS k).toArray⟩, .int .i64 (shortE k)]) ∧ Below w.heap.size w w' := by
  have hz := sbody_size k
  cases hb : sbody k with
  | nil =>
    have e1 : shortS k = [] := by simp [shortS, hb]
    have e2 : shortE k = 5 := by simp [shortE, hb]
    rw [e1, e2]
    go_enter Tryz.func106, Tryz.ntmps106
    go_wp2_with (first | (go_at_call 99; refine (shortBody_any k _).mono ?_; rintro e w1 ⟨rfl, hb1⟩))
    go_ret2
    exact ⟨rfl, by assumption⟩
  | cons c l =>
    have e1 : shortS k = [22, 22] ++ (c :: l) ++ [255] := by simp [shortS, hb]
    have e2 : shortE k = 0 := by simp [shortE, hb]
    rw [e1, e2]
    rw [hb] at hz
    go_enter Tryz.func106, Tryz.ntmps106
    go_wp2_with (first | (go_at_call 99; refine (shortBody_any k _).mono ?_; rintro e w1 ⟨rfl, hb1⟩) | (go_at_call 122; refine (transmission_any _ _ ?_).mono ?_; (simp [ByteArray.size] at *; omega); rintro e w2 ⟨rfl, hb2⟩))
    go_ret2
    exact ⟨rfl, (by assumption : Below w.heap.size w _).trans (Below.mono (by assumption) (Below.size (by assumption)))⟩

end Go.Proofs.YtlbpjcphhocdkabGreatDoor

namespace Go.Proofs.YtlbpjcphhocdkabGreatDoor
open Go.RowKit

set_option maxHeartbeats 1000000 in
theorem endCharacter_any (h : ByteArray) (a : Option Addr) (n cap : Nat) (c t : Bool) (i : Nat) (w : World) (hn : n ≤ 1000000000) (_hi : i ≤ 1000000000) :
    Calls Tryz.prog 123 #[.agg #[.string h, .slice a n cap, .bool c, .bool t], .int .i64 i] w fun e w' => e = .returned (.int .u8 (Blk.endC t n i).toNat) ∧ Below w.heap.size w w' := by
  by_cases hlt : i + 1 < n
  · have HE : Hid (Blk.endC t n i = 31) := by simp [Hid, Blk.endC, hlt]
    have hlt' : (i : Int) < (n : Int) - 1 := by omega
    go_enter Tryz.func123, Tryz.ntmps123
    go_wp2
    go_ret
    exact ⟨by rw [HE.out]; rfl, (Below.refl _ _).alloc (Nat.le_refl _) _⟩
  · have hlt' : ¬ (i : Int) < (n : Int) - 1 := by omega
    cases t
    · have HE : Hid (Blk.endC false n i = 23) := by simp [Hid, Blk.endC, hlt]
      go_enter Tryz.func123, Tryz.ntmps123
      go_wp2
      go_ret
      exact ⟨by rw [HE.out]; rfl, (Below.refl _ _).alloc (Nat.le_refl _) _⟩
    · have HE : Hid (Blk.endC true n i = 3) := by simp [Hid, Blk.endC, hlt]
      go_enter Tryz.func123, Tryz.ntmps123
      go_wp2
      go_ret
      exact ⟨by rw [HE.out]; rfl, (Below.refl _ _).alloc (Nat.le_refl _) _⟩

theorem strOfNums_one (u : UInt8) : strOfNums [(u.toNat : Int)] = ⟨#[u]⟩ := by simp [strOfNums]
theorem strOfNums_two (u : UInt8) : strOfNums [16, (u.toNat : Int)] = ⟨#[16, u]⟩ := by simp [strOfNums]

set_option maxHeartbeats 1000000 in
theorem ending_any (h : ByteArray) (a : Option Addr) (n cap : Nat) (c t : Bool) (i : Nat) (w : World) (hn : n ≤ 1000000000) (hi : i ≤ 1000000000) :
    Calls Tryz.prog 115 #[.agg #[.string h, .slice a n cap, .bool c, .bool t], .int .i64 i] w fun e w' => e = .returned (.string ⟨(Blk.endL c t n i).toArray⟩) ∧ Below w.heap.size w w' := by
  have c1 := conv_lit1
  have c2 := conv_lit2
  have HBK := hide (BlkAt.new w (.string h) (.slice a n cap) (.bool c) (.bool t))
  cases c
  · have HE : Hid (Blk.endL false t n i = [Blk.endC t n i]) := by simp [Hid, Blk.endL]
    generalize hu : Blk.endC t n i = u at *
    have HU := hide hu
    clear hu
    go_enter Tryz.func115, Tryz.ntmps115
    go_wp2_with (first | (go_at_call 123; refine (endCharacter_any h a n cap false t i _ hn hi).mono ?_; rintro e w1 ⟨rfl, hb1⟩; rw [HU.out]; have d2 := (HBK.out.below hb1 (by simp)).cell2))
    go_ret
    refine ⟨by rw [HE.out]; exact congrArg (fun s => Ending.returned (Value.string s)) (strOfNums_one u), ?_⟩
    exact (((Below.refl _ _).alloc (Nat.le_refl _) _).trans (hb1.mono (by simp))).alloc (by have := hb1.size; simp at this; omega) _
  · have HE : Hid (Blk.endL true t n i = [16, Blk.endC t n i]) := by simp [Hid, Blk.endL]
    generalize hu : Blk.endC t n i = u at *
    have HU := hide hu
    clear hu
    go_enter Tryz.func115, Tryz.ntmps115
    go_wp2_with (first | (go_at_call 123; refine (endCharacter_any h a n cap true t i _ hn hi).mono ?_; rintro e w1 ⟨rfl, hb1⟩; rw [HU.out]; have d2 := (HBK.out.below hb1 (by simp)).cell2))
    go_ret
    refine ⟨by rw [HE.out]; exact congrArg (fun s => Ending.returned (Value.string s)) (strOfNums_two u), ?_⟩
    exact (((Below.refl _ _).alloc (Nat.le_refl _) _).trans (hb1.mono (by simp))).alloc (by have := hb1.size; simp at this; omega) _


theorem ba_append (a b : List UInt8) : (⟨a.toArray⟩ : ByteArray) ++ ⟨b.toArray⟩ = ⟨(a ++ b).toArray⟩ := by
  apply ByteArray.ext
  simp [ByteArray.data_append]

theorem below_drew_head {w w' : World} (h : Below w.drew.heap.size w.drew w') : Below w.heap.size w w' := ⟨h.os, h.tape, h.output, h.size, h.block⟩

/-- A string that is told by its bytes. -/
def Is (s : ByteArray) (l : List UInt8) : Prop := s = ⟨l.toArray⟩
theorem Is.mk (l : List UInt8) : Is ⟨l.toArray⟩ l := rfl
theorem Is.size {s : ByteArray} {l : List UInt8} (h : Is s l) : s.size = l.length := by subst h; rfl
theorem Is.data {s : ByteArray} {l : List UInt8} (h : Is s l) : s.data.toList = l := by subst h; rfl
theorem Is.append {s r : ByteArray} {l m : List UInt8} (h : Is s l) (k : Is r m) : Is (s ++ r) (l ++ m) := by subst h; subst k; exact ba_append l m
theorem Is.self (s : ByteArray) : Is s s.data.toList := by unfold Is; cases s; simp

theorem cov_len (h : List UInt8) (c : Bool) (j : Nat) (hh : h.length ≤ 8) : (if j = 0 then Blk.openL h c else []).length ≤ 100 := by
  have := Blk.openL_length h c
  split
  · omega
  · simp

theorem written_is (s : ByteArray) (c : Bool) (w : World) (hs : s.size ≤ 32) :
    Calls Tryz.prog 114 #[.string s, .bool c] w fun e w' => ∃ r, e = .returned (.string r) ∧ Hid (Is r (Blk.txt c s.data.toList)) ∧ r.size ≤ 64 ∧ Below w.heap.size w w' :=
  (written_any s c w (by omega)).mono fun e w' ⟨he, hb⟩ => ⟨_, he, Is.mk _, by rw [(Is.mk _).size]; have := Blk.txt_length c s.data.toList; rw [size_list] at this; omega, hb⟩
theorem ending_is (h : ByteArray) (a : Option Addr) (n cap : Nat) (c t : Bool) (i : Nat) (w : World) (hn : n ≤ 1000000000) (hi : i ≤ 1000000000) :
    Calls Tryz.prog 115 #[.agg #[.string h, .slice a n cap, .bool c, .bool t], .int .i64 i] w fun e w' => ∃ r, e = .returned (.string r) ∧ Hid (Is r (Blk.endL c t n i)) ∧ r.size ≤ 2 ∧ Below w.heap.size w w' :=
  (ending_any h a n cap c t i w hn hi).mono fun e w' ⟨he, hb⟩ => ⟨_, he, Is.mk _, by rw [(Is.mk _).size]; exact Blk.endL_length c t n i, hb⟩
theorem checkBytes_is (s : ByteArray) (c : Int) (w : World) (hs : s.size ≤ 140737488352000) (hc : c = 0 ∨ c = 1) :
    Calls Tryz.prog 116 #[.string s, .int .i64 c] w fun e w' => ∃ r, e = .returned (.string r) ∧ Hid (Is r (Crc.sumS c s.data.toList)) ∧ r.size ≤ 2 ∧ Below w.heap.size w w' :=
  (checkBytes_any s c w hs hc).mono fun e w' ⟨he, hb⟩ => ⟨_, he, Is.mk _, by rw [(Is.mk _).size]; exact Blk.sumS_length c _, hb⟩

theorem body_step {h : List UInt8} {ps : List (List UInt8)} {c t : Bool} {k : Int} {j : Nat} {xs ys r2 r3 r4 st : ByteArray}
    (hx : Is xs (Blk.bodyTo h ps c t k j)) (hy : Is ys (if j = 0 then Blk.openL h c else [])) (hst : ps.getD j [] = st.data.toList) (h2 : Is r2 (Blk.txt c st.data.toList))
    (h3 : Is r3 (Blk.endL c t ps.length j)) (h4 : Is r4 (Crc.sumS k (ys ++ r2 ++ r3).data.toList)) :
    Is (xs ++ (ys ++ r2 ++ r3) ++ r4) (Blk.bodyTo h ps c t k (j + 1)) := by
  have hs : Is (ys ++ r2 ++ r3) (Blk.seg h ps c t j) := by
    have := (hy.append h2).append h3
    unfold Blk.seg
    rw [hst, ← List.append_assoc]
    exact this
  rw [hs.data] at h4
  have := (hx.append hs).append h4
  unfold Blk.bodyTo
  rw [← List.append_assoc]
  exact this

set_option maxHeartbeats 2000000 in
theorem blockBody_any (h : ByteArray) (b o : Nat) (l : List ByteArray) (cap : Nat) (c t : Bool) (k : Int) (w : World)
    (hk : k = 0 ∨ k = 1) (hh : h.size ≤ 8) (hl : ∀ i, (l.getD i ByteArray.empty).size ≤ 32) (hn : l.length ≤ 4)
    (ht : ∀ i, i < l.length → w.cell? ⟨b, o + i, none⟩ = some (.string (l.getD i ByteArray.empty))) :
    Calls Tryz.prog 97 #[.agg #[.string h, .slice (some ⟨b, o, none⟩) l.length cap, .bool c, .bool t], .int .i64 k] w fun e w' => e = .returned (.string ⟨(Blk.body h.data.toList (datas l) c t k).toArray⟩) ∧ Below w.heap.size w w' := by
  have HBK := hide (BlkAt.new w (.string h) (.slice (some ⟨b, o, none⟩) l.length cap) (.bool c) (.bool t))
  have HT := hide ht
  have HL := hide hl
  have HK := hide hk
  have HBL := hide (Blk.bodyTo_length h.data.toList (datas l) c t k 32 (fun i => by rw [datas_getD, size_list]; exact hl i))
  rw [size_list] at HBL
  clear ht hl hk
  go_enter Tryz.func97, Tryz.ntmps97
  go_wp2_with (first | (go_at_call 111; refine (opening_any h _ _ _ c t _ (by omega)).mono ?_; rintro e w1 ⟨rfl, hb1⟩))
  go_loopw [5, 6, 7] (fun x y i wr => ∃ (j : Nat) (xs ys : ByteArray), j ≤ l.length ∧ i = .int .i64 j ∧ x = .string xs ∧ y = .string ys ∧ Hid (Is xs (Blk.bodyTo h.data.toList (datas l) c t k j)) ∧ Hid (Is ys (if j = 0 then Blk.openL h.data.toList c else [])) ∧ BlkAt wr w.heap.size (.string h) (.slice (some ⟨b, o, none⟩) l.length cap) (.bool c) (.bool t) ∧ Below w.heap.size w wr) (fun _ _ i _ => l.length - (intOf i).toNat)
  case atStart => exact ⟨0, _, _, by omega, rfl, rfl, rfl, Is.mk _, Is.mk _, HBK.out.below hb1 (by simp), below_step ((Below.refl _ _).alloc (Nat.le_refl _) _) hb1⟩
  case round =>
    obtain ⟨j, xs, ys, hj, rfl, rfl, rfl, HX, HY, hblk, hbel⟩ := hrel
    by_cases hlt : j < l.length
    · have hcl := HT.out j hlt
      have hbb := World.block_lt_of_cell? w _ hcl
      rw [← hbel.cell hbb] at hcl
      have hg := HL.out j
      have e1 := hblk.cell1
      have e2 := hblk.cell2
      have hlt' : (j : Int) < (l.length : Int) := by omega
      generalize hst : l.getD j ByteArray.empty = st at *
      have HST := hide hst
      clear hst
      have hys : ys.size ≤ 100 := by rw [HY.out.size]; exact cov_len _ c j (by rw [size_list]; exact hh)
      have hxs : xs.size ≤ 1000 := by
        rw [HX.out.size]
        have h1 := HBL.out j
        have h2 : j * (h.size + 2 * 32 + 7) ≤ 4 * (8 + 2 * 32 + 7) := Nat.mul_le_mul (by omega) (by omega)
        omega
      have hj0 : (0 : Int) ≤ (j : Int) := by omega
      have hadd : ∀ (W : World) (r : ByteArray), r.size ≤ 64 → (Op.stringOp .add ys r).run Tryz.prog W = .ok (.string (ys ++ r)) W := fun W r hr => run_string_add_sum W ys r (by omega)
      go_wp2_with fail
      go_region_held3 (fun w' => w'.cell? ⟨w.heap.size, 1, none⟩ = some (.slice (some ⟨b, o, none⟩) l.length cap) ∧ w'.cell? ⟨w.heap.size, 2, none⟩ = some (.bool c) ∧ w'.cell? ⟨b, o + j, none⟩ = some (.string st)) (first | go_keep | exact ⟨cell_later hb2 (by exact e1), cell_later hb2 (by exact e2), cell_later hb2 (by exact hcl)⟩)
        (first | (go_at_call 114; refine (written_is _ c _ ?_).mono ?_; (omega); rintro e w2 ⟨r2, rfl, HR2, hr2, hb2⟩))
      have hb2 := below_drew_head hb2
      have hblk2 : BlkAt w2 w.heap.size (.string h) (.slice (some ⟨b, o, none⟩) l.length cap) (.bool c) (.bool t) := hblk.below hb2 (by have := (lt_of_block hblk); exact this)
      have hbel2 : Below w.heap.size w w2 := below_step hbel hb2
      have f0 := hblk2.cell0
      have f1 := hblk2.cell1
      have f2 := hblk2.cell2
      have f3 := hblk2.cell3
      clear hcl e1 e2 hadd hb2 hblk hbel
      go_wp2_with (first | (go_at_call 115; refine (ending_is h _ _ cap c t j _ (by omega) (by omega)).mono ?_; rintro e w3 ⟨r3, rfl, HR3, hr3, hb3⟩) | (go_at_call 116; refine (checkBytes_is _ k _ ?_ HK.out).mono ?_; (simp; omega); rintro e w4 ⟨r4, rfl, HR4, hr4, hb4⟩))
      go_roundw
      case rel => exact ⟨j + 1, _, _, by omega, by go_num, rfl, rfl, body_step HX.out HY.out (by rw [datas_getD, HST.out]) HR2.out (by rw [datas_length]; exact HR3.out) HR4.out, rfl, (hblk2.below hb3 (lt_of_block hblk2)).below hb4 (lt_of_block (hblk2.below hb3 (lt_of_block hblk2))), below_step (below_step hbel2 hb3) hb4⟩
      case measure => simp [intOf]; omega
    · obtain rfl : j = l.length := by omega
      have e1 := hblk.cell1
      have hlt' : ¬ (l.length : Int) < (l.length : Int) := by omega
      go_wp2
      go_ret
      exact ⟨by rw [HX.out]; unfold Blk.body; rw [datas_length]; rfl, hbel⟩

theorem getD_le {l : List ByteArray} {n : Nat} (h : ∀ i, ((datas l).getD i []).length ≤ n) (i : Nat) : (l.getD i ByteArray.empty).size ≤ n := by
  have := h i
  rw [datas_getD, size_list] at this
  exact this

set_option maxHeartbeats 1000000 in
theorem encode_any (h : ByteArray) (a : Option Addr) (l : List ByteArray) (cap : Nat) (c t : Bool) (k : Int) (w : World)
    (hh : h.size ≤ 140737488352000) (hl : ∀ s ∈ l, s.size ≤ 140737488352000) (hn : l.length ≤ 140737488352000) (ht : Texts w a l) :
    Calls Tryz.prog 117 #[.agg #[.string h, .slice a l.length cap, .bool c, .bool t], .int .i64 k] w fun e w' => e = .returned (.tuple #[.string ⟨(Blk.encS h.data.toList (datas l) c t k).toArray⟩, .int .i64 (Blk.encE h.data.toList (datas l) c k)]) ∧ Below w.heap.size w w' := by
  have HBK := hide (BlkAt.new w (.string h) (.slice a l.length cap) (.bool c) (.bool t))
  have hbel0 : Below w.heap.size w (w.alloc (.cells #[.string h, .slice a l.length cap, .bool c, .bool t] 89)) := (Below.refl _ _).alloc (Nat.le_refl _) _
  have HB0 := hide hbel0
  have ht1 := ht.below hbel0
  clear hbel0
  by_cases hk : k = 0 ∨ k = 1
  · have hd : Hid (decide (k = 0 ∨ k = 1) = true) := by simp [Hid, hk]
    have HK := hide hk
    have hE : Blk.encE h.data.toList (datas l) c k = Blk.berr h.data.toList (datas l) c := by simp [Blk.encE, hk]
    clear hk
    by_cases hz : Blk.berr h.data.toList (datas l) c = 0
    · have HS : Hid (Blk.encS h.data.toList (datas l) c t k = [22, 22] ++ Blk.body h.data.toList (datas l) c t k ++ [255]) := by simp [Hid, Blk.encS, hE, hz]
      obtain ⟨g1, g2, g3, g4⟩ := Blk.berr_ok hz
      have G1 := Blk.headOk_le g1
      rw [size_list] at G1
      rw [datas_length] at g2 g3
      have G4 := hide (getD_le (Blk.parts_le g4))
      have HBL := hide (Blk.bodyTo_length h.data.toList (datas l) c t k 32 (Blk.parts_le g4) (datas l).length)
      rw [datas_length, size_list] at HBL
      obtain ⟨b, o, rfl, hcell⟩ : ∃ b o, a = some ⟨b, o, none⟩ ∧ ∀ i, i < l.length → w.cell? ⟨b, o + i, none⟩ = some (.string (l.getD i ByteArray.empty)) := by
        rcases ht with h | h
        · subst h; simp at g2
        · exact h
      have HC := hide hcell
      clear hcell g1 g4 ht
      rw [HS.out, hE, hz]
      have HZ := hide hz
      clear hE hz HS
      have HTX := hide ht1
      have HLL := hide hl
      clear ht1 hl
      go_enter Tryz.func117, Tryz.ntmps117
      go_wp2_with (first | (go_at_call 70; refine (isCheck_any k _).mono ?_; rintro e w1 ⟨rfl, rfl⟩; rw [hd.out]) | (go_at_call 96; refine (blockError_any h _ l cap c t _ hh HLL.out hn HTX.out).mono ?_; rintro e w2 ⟨rfl, hb2⟩; rw [HZ.out]; have f0 := (HBK.out.below hb2 (by simp)).cell0; have f1 := (HBK.out.below hb2 (by simp)).cell1; have f2 := (HBK.out.below hb2 (by simp)).cell2; have f3 := (HBK.out.below hb2 (by simp)).cell3))
      refine (blockBody_any h b o l cap c t k _ HK.out G1 G4.out (by omega) ?_).mono ?_
      · intro i hi
        exact cell_later (below_step HB0.out hb2) (HC.out i hi)
      rintro e w3 ⟨rfl, hb3⟩
      go_wp2_with (first | (go_at_call 122; refine (transmission_any _ _ ?_).mono ?_; (have h1 := HBL.out; have h2 : l.length * (h.size + 2 * 32 + 7) ≤ 4 * (8 + 2 * 32 + 7) := Nat.mul_le_mul (by omega) (by omega); rw [(Is.mk _).size]; unfold Blk.body; rw [datas_length]; omega); rintro e w4 ⟨rfl, hb4⟩))
      go_ret2
      exact ⟨rfl, below_step (below_step (below_step HB0.out hb2) hb3) hb4⟩
    · have HS : Hid (Blk.encS h.data.toList (datas l) c t k = []) := by simp [Hid, Blk.encS, hE, hz]
      rw [HS.out, hE]
      generalize hbz : Blk.berr h.data.toList (datas l) c = z at *
      have HZ := hide hbz
      have hnz : (z != 0) = true := by simp [hz]
      have HTX := hide ht1
      have HLL := hide hl
      clear ht1 hl ht hE hbz hz HS
      go_enter Tryz.func117, Tryz.ntmps117
      go_wp2_with (first | (go_at_call 70; refine (isCheck_any k _).mono ?_; rintro e w1 ⟨rfl, rfl⟩; rw [hd.out]) | (go_at_call 96; refine (blockError_any h _ l cap c t _ hh HLL.out hn HTX.out).mono ?_; rintro e w2 ⟨rfl, hb2⟩; rw [HZ.out]))
      go_ret2
      exact ⟨rfl, below_step HB0.out hb2⟩
  · have hd : Hid (decide (k = 0 ∨ k = 1) = false) := by simp [Hid, hk]
    have hE : Blk.encE h.data.toList (datas l) c k = 1 := by simp [Blk.encE, hk]
    have hS : Blk.encS h.data.toList (datas l) c t k = [] := by simp [Blk.encS, hE]
    rw [hS, hE]
    clear hk hE hS hl ht ht1
    go_enter Tryz.func117, Tryz.ntmps117
    go_wp2_with (first | (go_at_call 70; refine (isCheck_any k _).mono ?_; rintro e w1 ⟨rfl, rfl⟩; rw [hd.out]))
    go_ret2
    exact ⟨rfl, HB0.out⟩

end Go.Proofs.YtlbpjcphhocdkabGreatDoor
