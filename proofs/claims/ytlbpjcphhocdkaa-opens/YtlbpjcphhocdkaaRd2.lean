/- The program's functions beneath Read: the head, the mark Clear, a part, a short kind. -/
import Derived.Test.YtlbpjcphhocdkaaRd1
namespace Go.Proofs.Ytlbpjcphhocdkaa
open Go.RowKit

def noCtl (u : UInt8) : Bool := !Blk.isCtl u

/-- A run of bytes of one kind, by places. -/
theorem tw_step (f : UInt8 → Bool) (s : ByteArray) (k : Nat) (h : k < s.size) (hf : f s[k] = true) : (s.data.toList.drop k).takeWhile f = s[k] :: (s.data.toList.drop (k + 1)).takeWhile f := by
  have h' : k < s.data.toList.length := by simpa using h
  rw [List.drop_eq_getElem_cons h']
  exact List.takeWhile_cons_of_pos hf
theorem tw_stop (f : UInt8 → Bool) (s : ByteArray) (k : Nat) (h : k < s.size) (hf : f s[k] = false) : (s.data.toList.drop k).takeWhile f = [] := by
  have h' : k < s.data.toList.length := by simpa using h
  rw [List.drop_eq_getElem_cons h']
  exact List.takeWhile_cons_of_neg (by rw [Bool.not_eq_true]; exact hf)
theorem tw_end (f : UInt8 → Bool) (s : ByteArray) (k : Nat) (h : s.size ≤ k) : (s.data.toList.drop k).takeWhile f = [] := by rw [List.drop_of_length_le (by simpa using h)]; rfl
theorem cut_snoc (s : ByteArray) (a k : Nat) (ha : a ≤ k) (h : k < s.size) : (s.data.toList.drop a).take (k + 1 - a) = (s.data.toList.drop a).take (k - a) ++ [s[k]] := by
  have h' : k - a < (s.data.toList.drop a).length := by simp; omega
  rw [show k + 1 - a = (k - a) + 1 by omega, List.take_succ_eq_append_getElem h']
  congr 2
  rw [List.getElem_drop]
  simp only [show a + (k - a) = k by omega]
  rfl

set_option maxHeartbeats 1000000 in
theorem foundHead_any (s : ByteArray) (w : World) (hs : s.size ≤ 140737488352000) :
    Calls Try.prog 77 #[.string s] w fun e w' => ∃ r, e = .returned (.string r) ∧ Hid (Is r (Prs.headP noCtl s.data.toList)) ∧ r.size ≤ s.size ∧ w' = w := by
  have b0 := byteAt_any s 0
  have HH : Hid (Prs.headP noCtl s.data.toList = if (s.data.toList.getD 0 0).toNat = 1 then (s.data.toList.drop 1).takeWhile noCtl else []) := rfl
  have h0 : (s.data.toList.getD 0 0).toNat = 1 → 1 ≤ s.size := by
    intro h
    by_cases hz : 0 < s.size
    · omega
    · rw [getD_out s 0 hz] at h; cases h
  generalize (s.data.toList.getD 0 0).toNat = x at *
  have B0 := hide b0
  clear b0
  by_cases h1 : x = 1
  · have d1 : ((x : Int) != 1) = false := by simp [h1]
    have HF : Hid (Prs.headP noCtl s.data.toList = (s.data.toList.drop 1).takeWhile noCtl) := by rw [Hid, HH.out, if_pos h1]
    have hz := h0 h1
    clear h1 h0 HH
    go_enter Try.func77, Try.ntmps77
    go_wp2_with (first | (go_at_call 67; refine (B0.out _ hs (by omega)).mono ?_; rintro e w1 ⟨rfl, rfl⟩))
    go_loop [3] (fun i => ∃ k : Nat, 1 ≤ k ∧ k ≤ s.size ∧ i = .int .i64 k ∧ Hid ((s.data.toList.drop 1).takeWhile noCtl = (s.data.toList.drop 1).take (k - 1) ++ (s.data.toList.drop k).takeWhile noCtl)) (fun i => s.size - (intOf i).toNat)
    case atStart => exact ⟨1, by omega, by omega, rfl, by simp [Hid]⟩
    case round =>
      obtain ⟨k, hk1, hk, rfl, HN⟩ := hrel
      by_cases hlt : k < s.size
      · have hlt' : (k : Int) < (s.size : Int) := by omega
        cases hc : Blk.isCtl s[k]
        · have HC := hide hc
          have HT := hide (tw_step noCtl s k hlt (by simp [noCtl, hc]))
          have HS := hide (cut_snoc s 1 k hk1 hlt)
          clear hc
          go_wp2_with (first | (go_at_call 87; refine (isControl_any s[k] _).mono ?_; rintro e w1 ⟨rfl, rfl⟩; rw [HC.out]))
          go_round
          case rel => exact ⟨k + 1, by omega, by omega, by go_num, by rw [Hid, HN.out, HS.out, HT.out, List.append_assoc]; rfl⟩
          case measure => simp [intOf]; omega
        · have HC := hide hc
          have HT := hide (tw_stop noCtl s k hlt (by simp [noCtl, hc]))
          have HI := hide (is_cut s 1 k)
          clear hc
          go_wp2_with (first | (go_at_call 87; refine (isControl_any s[k] _).mono ?_; rintro e w1 ⟨rfl, rfl⟩; rw [HC.out]))
          go_ret
          exact ⟨_, rfl, by rw [Hid, HF.out, HN.out, HT.out, List.append_nil]; exact HI, by simp; omega, rfl⟩
      · obtain rfl : k = s.size := by omega
        have hlt' : ¬ (s.size : Int) < (s.size : Int) := by omega
        have HT := hide (tw_end noCtl s s.size (by omega))
        have HI := hide (is_cut s 1 s.size)
        go_wp2
        go_ret
        exact ⟨_, rfl, by rw [Hid, HF.out, HN.out, HT.out, List.append_nil]; exact HI, by simp, rfl⟩
  · have d1 : ((x : Int) != 1) = true := by simp; omega
    have HF : Hid (Prs.headP noCtl s.data.toList = []) := by rw [Hid, HH.out, if_neg h1]
    clear h1 h0 HH
    go_enter Try.func77, Try.ntmps77
    go_wp2_with (first | (go_at_call 67; refine (B0.out _ hs (by omega)).mono ?_; rintro e w1 ⟨rfl, rfl⟩))
    go_ret
    exact ⟨_, rfl, by rw [Hid, HF.out]; rfl, Nat.zero_le _, rfl⟩

set_option maxHeartbeats 400000 in
theorem foundClear_any (s h : ByteArray) (w : World) (hs : s.size ≤ 140737488352000) (hh : h.size ≤ s.size) :
    Calls Try.prog 78 #[.string s, .string h] w fun e w' => e = .returned (.bool (Prs.clearP s.data.toList h.data.toList)) ∧ w' = w := by
  have HC : Hid (Prs.clearP s.data.toList h.data.toList = decide ((s.data.toList.getD (if h.data.toList = [] then 0 else 1 + h.data.toList.length) 0).toNat = 16)) := rfl
  by_cases hn : h.data.toList = []
  · have hE : h.toList.isEmpty = true := by rw [ByteArray.toList_eq]; simp [hn]
    have b0 := byteAt_any s 0
    rw [if_pos hn] at HC
    generalize (s.data.toList.getD 0 0).toNat = x at *
    have B0 := hide b0
    have HX : Hid (((x : Int) == 16) = decide (x = 16)) := by rw [Hid, Bool.eq_iff_iff]; simp only [decide_eq_true_eq, beq_iff_eq]; omega
    clear b0 hn
    go_enter Try.func78, Try.ntmps78
    go_wp2_with (first | (go_at_call 67; refine (B0.out _ hs (by omega)).mono ?_; rintro e w1 ⟨rfl, rfl⟩))
    go_ret
    exact ⟨by rw [HC.out, ← HX.out]; rfl, rfl⟩
  · have hE : h.toList.isEmpty = false := by rw [ByteArray.toList_eq]; simpa using hn
    have b0 := byteAt_any s (1 + h.size)
    rw [if_neg hn, size_list] at HC
    generalize (s.data.toList.getD (1 + h.size) 0).toNat = x at *
    have B0 := hide b0
    have HX : Hid (((x : Int) == 16) = decide (x = 16)) := by rw [Hid, Bool.eq_iff_iff]; simp only [decide_eq_true_eq, beq_iff_eq]; omega
    have he : Hid ((1 : Int) + (h.size : Int) = ((1 + h.size : Nat) : Int)) := by unfold Hid; omega
    clear b0 hn
    go_enter Try.func78, Try.ntmps78
    go_wp2_with (first | (go_at_call 67; rw [he.out]; refine (B0.out _ hs (by omega)).mono ?_; rintro e w1 ⟨rfl, rfl⟩))
    go_ret
    exact ⟨by rw [HC.out, ← HX.out]; rfl, rfl⟩

theorem str_eq (s : ByteArray) (l : List UInt8) : s = ⟨l.toArray⟩ ↔ s.data.toList = l := by
  constructor
  · rintro rfl; rfl
  · intro h; subst h; exact Is.self s

theorem str_no {s r : ByteArray} (h : ¬ s = r) : (s.toList == r.toList) = false := by
  rw [ByteArray.toList_eq, ByteArray.toList_eq]
  simp only [beq_eq_false_iff_ne, ne_eq]
  intro e
  exact h ((str_eq s r.data.toList).2 e |>.trans (Is.self r).symm)

set_option maxHeartbeats 1000000 in
theorem shortKind_any (s : ByteArray) (w : World) :
    Calls Try.prog 51 #[.string s] w fun e w' => ∃ n : Nat, e = .returned (.int .i64 n) ∧ Hid (SKind s.data.toList n) ∧ Below w.heap.size w w' := by
  go_enter Try.func51, Try.ntmps51
  go_wp2
  go_loopw [3] (fun i wr => ∃ k : Nat, 3 ≤ k ∧ k ≤ 10 ∧ i = .int .i64 k ∧ Hid (∀ j : Nat, 3 ≤ j → j < k → s.data.toList ≠ sbody j ++ [255]) ∧ Below w.heap.size w wr) (fun i _ => 10 - (intOf i).toNat)
  case atStart => exact ⟨3, by omega, by omega, rfl, fun j h1 h2 => by omega, Below.refl _ _⟩
  case round =>
    obtain ⟨k, hk1, hk, rfl, HN, hbel⟩ := hrel
    by_cases hlt : k ≤ 9
    · have hlt' : (k : Int) ≤ 9 := by omega
      have hsz := sbody_size k
      have HZ := hide (show (⟨(sbody k).toArray⟩ : ByteArray).size ≤ 140737488352000 by rw [(Is.mk _).size]; omega)
      by_cases he : s.data.toList = sbody k ++ [255]
      · have HE := hide he
        have hd : s = ⟨((⟨(sbody k).toArray⟩ : ByteArray).data.toList ++ [255]).toArray⟩ := (str_eq _ _).2 he
        clear he hsz
        generalize hr : (⟨((⟨(sbody k).toArray⟩ : ByteArray).data.toList ++ [255]).toArray⟩ : ByteArray) = r at *
        have HR := hide hr
        clear hr
        subst hd
        go_wp2_with (first | (go_at_call 37; refine (shortBody_any k _).mono ?_; rintro e w1 ⟨rfl, hb1⟩) | (go_at_call 57; refine (padded_any _ _ HZ.out).mono ?_; rintro e w2 ⟨rfl, hb2⟩; rw [HR.out]))
        go_ret
        exact ⟨k, rfl, Or.inl ⟨hk1, hlt, HE.out⟩, below_step (below_step hbel (by assumption)) (by assumption)⟩
      · have HE := hide he
        have hd : ¬ s = ⟨((⟨(sbody k).toArray⟩ : ByteArray).data.toList ++ [255]).toArray⟩ := fun h => he ((str_eq _ _).1 h)
        clear he hsz
        generalize hr : (⟨((⟨(sbody k).toArray⟩ : ByteArray).data.toList ++ [255]).toArray⟩ : ByteArray) = r at *
        have HR := hide hr
        have hd2 := str_no hd
        clear hr
        go_wp2_with (first | (go_at_call 37; refine (shortBody_any k _).mono ?_; rintro e w1 ⟨rfl, hb1⟩) | (go_at_call 57; refine (padded_any _ _ HZ.out).mono ?_; rintro e w2 ⟨rfl, hb2⟩; rw [HR.out]))
        go_roundw
        case rel => exact ⟨k + 1, by omega, by omega, by go_num, fun j h1 h2 => by
          by_cases hj : j = k
          · subst hj; exact HE.out
          · exact HN.out j h1 (by omega), below_step (below_step hbel (by assumption)) (by assumption)⟩
        case measure => simp [intOf]; omega
    · have hlt' : ¬ (k : Int) ≤ 9 := by omega
      go_wp2
      go_ret
      exact ⟨0, rfl, Or.inr ⟨rfl, fun j h1 h2 => HN.out j h1 (by omega)⟩, hbel⟩
end Go.Proofs.Ytlbpjcphhocdkaa
