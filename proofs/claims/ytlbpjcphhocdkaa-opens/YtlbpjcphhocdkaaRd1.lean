/- The program's functions beneath Read: what is left behind the SYN, and how it begins. -/
import Derived.Test.YtlbpjcphhocdkaaEnc4
import Derived.Test.YtlbpjcphhocdkaaPrs
import Derived.Lib.Strings
namespace Go.Proofs.Ytlbpjcphhocdkaa
open Go.RowKit

theorem is_cut (s : ByteArray) (a b : Nat) : Is (s.extract a b) ((s.data.toList.drop a).take (b - a)) := by
  have := Is.self (s.extract a b)
  rw [Go.Lib.extract_data] at this
  exact this
theorem is_tail' (s : ByteArray) (n : Nat) : Is (s.extract n s.size) (s.data.toList.drop n) := by
  have h := is_cut s n s.size
  rw [List.take_of_length_le (by simp)] at h
  exact h
theorem getD_in (s : ByteArray) (k : Nat) (h : k < s.size) : s.data.toList.getD k 0 = s[k] := by
  have h' : k < s.data.toList.length := by simpa using h
  simp [List.getD, List.getElem?_eq_getElem h']
  rfl
theorem getD_out (s : ByteArray) (k : Nat) (h : ¬ k < s.size) : s.data.toList.getD k 0 = 0 := by
  have h' : s.data.toList.length ≤ k := by simp; omega
  simp [List.getD, List.getElem?_eq_none h']

set_option maxHeartbeats 400000 in
theorem byteAt_any (s : ByteArray) (k : Nat) (w : World) (_hs : s.size ≤ 140737488352000) (hk : k ≤ 300000000000000) :
    Calls Try.prog 67 #[.string s, .int .i64 k] w fun e w' => e = .returned (.int .u8 (s.data.toList.getD k 0).toNat) ∧ w' = w := by
  by_cases h : k < s.size
  · have hg := getD_in s k h
    generalize s.data.toList.getD k 0 = v at *
    have HG := hide hg
    clear hg
    have h1 : ¬ (k : Int) < 0 := by omega
    have h2 : ¬ (s.size : Int) ≤ (k : Int) := by omega
    go_enter Try.func67, Try.ntmps67
    go_wp2
    go_ret
    exact ⟨by rw [HG.out]; rfl, rfl⟩
  · have hg := getD_out s k h
    generalize s.data.toList.getD k 0 = v at *
    have HG := hide hg
    clear hg
    have h1 : ¬ (k : Int) < 0 := by omega
    have h2 : (s.size : Int) ≤ (k : Int) := by omega
    go_enter Try.func67, Try.ntmps67
    go_wp2
    go_ret
    exact ⟨by rw [HG.out]; rfl, rfl⟩

theorem restB_hit (s : ByteArray) (k : Nat) (h : k + 1 < s.size) (h1 : s[k].toNat = 22) (h2 : s[k + 1].toNat = 22) : Prs.restL (s.data.toList.drop k) = (s.data.toList.drop k).dropWhile Prs.syn :=
  Prs.restL_hit _ k (by simpa using h) h1 h2
theorem restB_step (s : ByteArray) (k : Nat) (h : k + 1 < s.size) (hn : ¬ (s[k].toNat = 22 ∧ s[k + 1].toNat = 22)) : Prs.restL (s.data.toList.drop k) = Prs.restL (s.data.toList.drop (k + 1)) :=
  Prs.restL_step _ k (by simpa using h) hn
theorem restB_end (s : ByteArray) (k : Nat) (h : s.size ≤ k + 1) : Prs.restL (s.data.toList.drop k) = [] := Prs.restL_end _ k (by simpa using h)
theorem dwB_step (s : ByteArray) (k : Nat) (h : k < s.size) (hs : s[k].toNat = 22) : (s.data.toList.drop k).dropWhile Prs.syn = (s.data.toList.drop (k + 1)).dropWhile Prs.syn := Prs.dw_step _ k (by simpa using h) hs
theorem dwB_stop (s : ByteArray) (k : Nat) (h : k < s.size) (hs : ¬ s[k].toNat = 22) : (s.data.toList.drop k).dropWhile Prs.syn = s.data.toList.drop k := Prs.dw_stop _ k (by simpa using h) hs
theorem dwB_end (s : ByteArray) (k : Nat) (h : s.size ≤ k) : (s.data.toList.drop k).dropWhile Prs.syn = [] := Prs.dw_end _ k (by simpa using h)

set_option maxHeartbeats 1000000 in
theorem firstPair_any (s : ByteArray) (w : World) (hs : s.size ≤ 140737488352000) :
    Calls Try.prog 66 #[.string s] w fun e w' => ∃ p : Nat, e = .returned (.int .i64 p) ∧ p ≤ s.size ∧ Hid (Prs.restL s.data.toList = (s.data.toList.drop p).dropWhile Prs.syn) ∧ w' = w := by
  go_enter Try.func66, Try.ntmps66
  go_wp2
  go_loop [3] (fun i => ∃ k : Nat, (k ≤ s.size ∨ k = 0) ∧ i = .int .i64 ((k : Int) + 1) ∧ Hid (Prs.restL s.data.toList = Prs.restL (s.data.toList.drop k))) (fun i => s.size + 1 - (intOf i).toNat)
  case atStart => exact ⟨0, by omega, rfl, rfl⟩
  case round =>
    obtain ⟨k, hk, rfl, HN⟩ := hrel
    by_cases hlt : k + 1 < s.size
    · have hlt' : (k : Int) + 1 < (s.size : Int) := by omega
      have e1 : (k : Int) + 1 - 1 = (k : Int) := by omega
      by_cases h1 : s[k].toNat = 22
      · by_cases h2 : s[k + 1].toNat = 22
        · have HT := hide (restB_hit s k hlt h1 h2)
          have d1 : ((s[k].toNat : Int) == 22) = true := by simp [h1]
          have d2 : ((s[k + 1].toNat : Int) == 22) = true := by simp [h2]
          clear h1 h2
          go_wp2
          go_ret
          exact ⟨k, by congr 2, by omega, HN.out.trans HT.out, rfl⟩
        · have HT := hide (restB_step s k hlt (fun h => h2 h.2))
          have d1 : ((s[k].toNat : Int) == 22) = true := by simp [h1]
          have d2 : ((s[k + 1].toNat : Int) == 22) = false := by simp; omega
          clear h1 h2
          go_wp2
          go_round
          case rel => exact ⟨k + 1, by omega, by go_num, HN.out.trans HT.out⟩
          case measure => simp [intOf]; omega
      · have HT := hide (restB_step s k hlt (fun h => h1 h.1))
        have d1 : ((s[k].toNat : Int) == 22) = false := by simp; omega
        clear h1
        go_wp2
        go_round
        case rel => exact ⟨k + 1, by omega, by go_num, HN.out.trans HT.out⟩
        case measure => simp [intOf]; omega
    · have hlt' : ¬ (k : Int) + 1 < (s.size : Int) := by omega
      have HE := hide (restB_end s k (by omega))
      have HD := hide (dwB_end s s.size (by omega))
      go_wp2
      go_ret
      exact ⟨s.size, rfl, by omega, by rw [Hid, HN.out, HE.out, HD.out], rfl⟩

set_option maxHeartbeats 1000000 in
theorem behindSyns_any (s : ByteArray) (w : World) (hs : s.size ≤ 140737488352000) :
    Calls Try.prog 48 #[.string s] w fun e w' => ∃ r, e = .returned (.string r) ∧ Hid (Is r (Prs.restL s.data.toList)) ∧ r.size ≤ s.size ∧ w' = w := by
  go_enter Try.func48, Try.ntmps48
  go_wp2_with (first | (go_at_call 66; refine (firstPair_any s _ hs).mono ?_; rintro e w1 ⟨p, rfl, hp, HP, rfl⟩))
  go_loop [3] (fun i => ∃ k : Nat, k ≤ s.size ∧ i = .int .i64 k ∧ Hid (Prs.restL s.data.toList = (s.data.toList.drop k).dropWhile Prs.syn)) (fun i => s.size - (intOf i).toNat)
  case atStart => exact ⟨p, by omega, rfl, HP⟩
  case round =>
    obtain ⟨k, hk, rfl, HN⟩ := hrel
    by_cases hlt : k < s.size
    · have hlt' : (k : Int) < (s.size : Int) := by omega
      by_cases h1 : s[k].toNat = 22
      · have HT := hide (dwB_step s k hlt h1)
        have d1 : ((s[k].toNat : Int) == 22) = true := by simp [h1]
        clear h1
        go_wp2
        go_round
        case rel => exact ⟨k + 1, by omega, by go_num, HN.out.trans HT.out⟩
        case measure => simp [intOf]; omega
      · have HT := hide (dwB_stop s k hlt h1)
        have d1 : ((s[k].toNat : Int) == 22) = false := by simp; omega
        have HI := hide (is_tail' s k)
        clear h1
        go_wp2
        go_ret
        exact ⟨_, rfl, by rw [Hid, HN.out, HT.out]; exact HI, by simp, rfl⟩
    · obtain rfl : k = s.size := by omega
      have hlt' : ¬ (s.size : Int) < (s.size : Int) := by omega
      have HD := hide (dwB_end s s.size (by omega))
      go_wp2
      go_ret
      exact ⟨_, rfl, by rw [Hid, HN.out, HD.out]; rfl, by simp, rfl⟩

set_option maxHeartbeats 400000 in
theorem beginsBlock_any (s : ByteArray) (w : World) (hs : s.size ≤ 140737488352000) :
    Calls Try.prog 49 #[.string s] w fun e w' => e = .returned (.bool (begins s.data.toList)) ∧ w' = w := by
  have b0 := byteAt_any s 0
  have b1 := byteAt_any s 1
  have HB : Hid (begins s.data.toList = decide ((s.data.toList.getD 0 0).toNat = 1 ∨ (s.data.toList.getD 0 0).toNat = 2 ∨ ((s.data.toList.getD 0 0).toNat = 16 ∧ (s.data.toList.getD 1 0).toNat = 2))) := rfl
  generalize (s.data.toList.getD 0 0).toNat = x at *
  generalize (s.data.toList.getD 1 0).toNat = y at *
  have B0 := hide b0
  have B1 := hide b1
  clear b0 b1
  by_cases h1 : x = 1
  · have d1 : ((x : Int) == 1) = true := by simp [h1]
    have HF : Hid (begins s.data.toList = true) := by rw [Hid, HB.out]; simp [h1]
    clear h1
    go_enter Try.func49, Try.ntmps49
    go_wp2_with (first | (go_at_call 67; refine (B0.out _ hs (by omega)).mono ?_; rintro e w1 ⟨rfl, rfl⟩))
    go_ret
    exact ⟨by rw [HF.out]; rfl, rfl⟩
  · have d1 : ((x : Int) == 1) = false := by simp; omega
    by_cases h2 : x = 2
    · have d2 : ((x : Int) == 2) = true := by simp [h2]
      have HF : Hid (begins s.data.toList = true) := by rw [Hid, HB.out]; simp [h2]
      clear h1 h2
      go_enter Try.func49, Try.ntmps49
      go_wp2_with (first | (go_at_call 67; refine (B0.out _ hs (by omega)).mono ?_; rintro e w1 ⟨rfl, rfl⟩))
      go_ret
      exact ⟨by rw [HF.out]; rfl, rfl⟩
    · have d2 : ((x : Int) == 2) = false := by simp; omega
      by_cases h3 : x = 16
      · have d3 : ((x : Int) == 16) = true := by simp [h3]
        have HF : Hid (begins s.data.toList = ((y : Int) == 2)) := by
          rw [Hid, HB.out, Bool.eq_iff_iff]
          simp only [decide_eq_true_eq, beq_iff_eq]
          omega
        clear h1 h2 h3
        go_enter Try.func49, Try.ntmps49
        go_wp2_with fail
        refine (B0.out _ hs (by omega)).mono ?_
        rintro e w1 ⟨rfl, rfl⟩
        go_wp2_with fail
        refine (B1.out _ hs (by omega)).mono ?_
        rintro e w1 ⟨rfl, rfl⟩
        go_wp2
        go_ret
        exact ⟨by rw [HF.out]; rfl, rfl⟩
      · have d3 : ((x : Int) == 16) = false := by simp; omega
        have HF : Hid (begins s.data.toList = false) := by rw [Hid, HB.out]; simp; omega
        clear h1 h2 h3
        go_enter Try.func49, Try.ntmps49
        go_wp2_with (first | (go_at_call 67; refine (B0.out _ hs (by omega)).mono ?_; rintro e w1 ⟨rfl, rfl⟩))
        go_ret
        exact ⟨by rw [HF.out]; rfl, rfl⟩

theorem checkLength_any (k : Int) (w : World) (hk : k = 0 ∨ k = 1) :
    Calls Try.prog 80 #[.int .i64 k] w fun e w' => e = .returned (.int .i64 (k + 1)) ∧ w' = w := by
  rcases hk with rfl | rfl
  all_goals
    go_enter Try.func80, Try.ntmps80
    go_wp2
    go_ret
    exact ⟨rfl, rfl⟩
end Go.Proofs.Ytlbpjcphhocdkaa
