/- The document's Encode, whole. -/
import Derived.Test.YtlbpjcphhocdkaaRefEnc
import Derived.Test.YtlbpjcphhocdkaaRefSum
import Derived.Lib.Strings
namespace Go.Proofs.Ytlbpjcphhocdkaa
open Go.RowKit

theorem is_one (s : ByteArray) (k : Nat) (h : k < s.size) : Is (s.extract k (k + 1)) [s[k]] := by
  have hd : (s.extract k (k + 1)).data.toList = [s[k]] := by
    rw [Go.Lib.extract_data, show k + 1 - k = 1 by omega]
    have h' : k < s.data.toList.length := by simpa using h
    rw [List.drop_eq_getElem_cons h']
    rfl
  have := Is.self (s.extract k (k + 1))
  rw [hd] at this
  exact this

theorem dbl_two (l : List UInt8) (u : UInt8) (h : u.toNat = 16) : Blk.dbl (l ++ [u]) = Blk.dbl l ++ [u] ++ [16] := by
  have e : u = 16 := UInt8.toNat_inj.1 h
  subst e
  simp [Blk.dbl_snoc]
theorem dbl_one (l : List UInt8) (u : UInt8) (h : ¬ u.toNat = 16) : Blk.dbl (l ++ [u]) = Blk.dbl l ++ [u] := by simp [Blk.dbl_snoc, h]

set_option maxHeartbeats 1000000 in
theorem doubled_any (s : ByteArray) (w : World) (hs : s.size ≤ 32) :
    Calls Try.prog 64 #[.string s] w fun e w' => ∃ r, e = .returned (.string r) ∧ Hid (Is r (Blk.dbl s.data.toList)) ∧ r.size ≤ 64 ∧ w' = w := by
  go_enter Try.func64, Try.ntmps64
  go_wp2
  go_loop [3, 4] (fun v i => ∃ (k : Nat) (r : ByteArray), k ≤ s.size ∧ i = .int .i64 k ∧ v = .string r ∧ Hid (Is r (Blk.dbl (s.data.toList.take k)))) (fun _ i => s.size - (intOf i).toNat)
  case atStart => exact ⟨0, _, by omega, rfl, rfl, rfl⟩
  case round =>
    obtain ⟨k, r, hk, rfl, rfl, HR⟩ := hrel
    have hz : r.size ≤ 64 := by
      rw [HR.out.size]
      have h1 := Blk.dbl_length (s.data.toList.take k)
      have h2 : (s.data.toList.take k).length ≤ k := List.length_take_le _ _
      omega
    by_cases hlt : k < s.size
    · have HT := hide (take_snoc s k hlt)
      have HO := hide (is_one s k hlt)
      have hlt' : (k : Int) < (s.size : Int) := by omega
      by_cases h16 : s[k].toNat = 16
      · have HS := hide (dbl_two (s.data.toList.take k) s[k] h16)
        have hd : ((s[k].toNat : Int) == 16) = true := by simp [h16]
        clear h16
        go_wp2
        go_round
        case rel => exact ⟨k + 1, _, by omega, by go_num, rfl, by rw [Hid, HT.out, HS.out]; exact (HR.out.append HO.out).append (Is.mk [16])⟩
        case measure => simp [intOf]; omega
      · have HS := hide (dbl_one (s.data.toList.take k) s[k] h16)
        have hd : ((s[k].toNat : Int) == 16) = false := by simp; omega
        clear h16
        go_wp2
        go_round
        case rel => exact ⟨k + 1, _, by omega, by go_num, rfl, by rw [Hid, HT.out, HS.out]; exact HR.out.append HO.out⟩
        case measure => simp [intOf]; omega
    · have HT : Hid (s.data.toList.take k = s.data.toList) := List.take_of_length_le (by simp; omega)
      go_wp2
      go_ret
      exact ⟨_, rfl, by rw [← HT.out]; exact HR, hz, rfl⟩


theorem refSum_is (s : ByteArray) (k : Int) (w : World) (hs : s.size ≤ 1000000000000) (hk : k = 0 ∨ k = 1) :
    Calls Try.prog 13 #[.string s, .int .i64 k] w fun e w' => ∃ r, e = .returned (.tuple #[.string r, .int .i64 0]) ∧ Hid (Is r (Crc.sumS k s.data.toList)) ∧ r.size ≤ 2 ∧ Below w.heap.size w w' := by
  have h := refSum_any s k w hs
  have e : Crc.sumE k = 0 := by rcases hk with rfl | rfl <;> rfl
  rw [e] at h
  exact h.mono fun e w' ⟨he, hb⟩ => ⟨_, he, Is.mk _, by rw [(Is.mk _).size]; exact Blk.sumS_length k _, hb⟩

def cur (h : List UInt8) (ps : List (List UInt8)) (c t : Bool) (k : Int) (j : Nat) : List UInt8 := if j = 0 then Blk.openL h c else Blk.bodyTo h ps c t k j
def curN (h : List UInt8) (ps : List (List UInt8)) (c t : Bool) (k : Int) (j : Nat) : Nat := if j = 0 then 0 else (Blk.bodyTo h ps c t k j).length

theorem curN_le (h : List UInt8) (ps : List (List UInt8)) (c t : Bool) (k : Int) (j : Nat) : curN h ps c t k j ≤ (cur h ps c t k j).length := by
  unfold curN cur
  split <;> omega

theorem cur_drop (h : List UInt8) (ps : List (List UInt8)) (c t : Bool) (k : Int) (j : Nat) (r : List UInt8) :
    (cur h ps c t k j ++ r).drop (curN h ps c t k j) = (if j = 0 then Blk.openL h c else []) ++ r := by
  unfold curN cur
  split
  · simp
  · simp

theorem cur_length (h : List UInt8) (ps : List (List UInt8)) (c t : Bool) (k : Int) (hh : h.length ≤ 8) (hm : ∀ i, (ps.getD i []).length ≤ 32) (j : Nat) (hj : j ≤ 4) : (cur h ps c t k j).length ≤ 1000 := by
  unfold cur
  have h0 := Blk.openL_length h c
  have h1 := Blk.bodyTo_length h ps c t k 32 hm j
  have h2 : j * (h.length + 2 * 32 + 7) ≤ 4 * (8 + 2 * 32 + 7) := Nat.mul_le_mul hj (by omega)
  split <;> omega

theorem is_tail {x : ByteArray} {l : List UInt8} (h : Is x l) (n : Nat) : Is (x.extract n x.size) (l.drop n) := by
  have hd : (x.extract n x.size).data.toList = l.drop n := by
    rw [Go.Lib.extract_data, h.data, h.size]
    exact List.take_of_length_le (by simp)
  have := Is.self (x.extract n x.size)
  rw [hd] at this
  exact this

/-- One part more. -/
theorem ref_step {h : List UInt8} {ps : List (List UInt8)} {c t : Bool} {k : Int} {j : Nat} {x r4 : ByteArray} {e : List UInt8}
    (hxx : Is x (cur h ps c t k j ++ (Blk.txt c (ps.getD j []) ++ e))) (he : e = Blk.endL c t ps.length j)
    (h4 : Is r4 (Crc.sumS k (x.extract (curN h ps c t k j) x.size).data.toList)) :
    Is (x ++ r4) (cur h ps c t k (j + 1)) := by
  have ht := is_tail hxx (curN h ps c t k j)
  rw [cur_drop] at ht
  have hs : Blk.seg h ps c t j = (if j = 0 then Blk.openL h c else []) ++ (Blk.txt c (ps.getD j []) ++ e) := by rw [he]; rfl
  rw [← hs] at ht
  rw [ht.data] at h4
  have hb : cur h ps c t k j ++ (Blk.txt c (ps.getD j []) ++ e) = Blk.bodyTo h ps c t k j ++ Blk.seg h ps c t j := by
    rw [hs]
    unfold cur
    split
    · rename_i h0; subst h0; simp [Blk.bodyTo]
    · simp
  rw [hb] at hxx
  have := hxx.append h4
  unfold cur
  rw [if_neg (by omega)]
  unfold Blk.bodyTo
  rw [← List.append_assoc]
  exact this

end Go.Proofs.Ytlbpjcphhocdkaa
