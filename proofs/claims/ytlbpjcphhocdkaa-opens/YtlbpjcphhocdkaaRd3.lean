/- The program's functions beneath Read: one part cut off. -/
import Derived.Test.YtlbpjcphhocdkaaRd2
namespace Go.Proofs.Ytlbpjcphhocdkaa
open Go.RowKit

theorem drop_one (s : ByteArray) (k : Nat) (h : k < s.size) : s.data.toList.drop k = s[k] :: s.data.toList.drop (k + 1) := by
  have h' : k < s.data.toList.length := by simpa using h
  rw [List.drop_eq_getElem_cons h']
  rfl

/-- Behind some rounds: the bytes done, and what is still to cut. -/
def CutInv (c : Bool) (s : ByteArray) (o k : Nat) (done : List UInt8) : Prop :=
  Prs.cutF c (s.data.toList.drop o) = (done ++ (Prs.cutF c (s.data.toList.drop k)).1, (Prs.cutF c (s.data.toList.drop k)).2.1, (k - o) + (Prs.cutF c (s.data.toList.drop k)).2.2)

theorem CutInv.start (c : Bool) (s : ByteArray) (o : Nat) : CutInv c s o o [] := by simp [CutInv]
theorem CutInv.txt {c : Bool} {s : ByteArray} {o k : Nat} {done : List UInt8} (h : CutInv c s o k done) (ho : o ≤ k) (hk : k < s.size) (h1 : ¬ (c = true ∧ s[k].toNat = 16)) (h2 : ¬ (c = false ∧ Blk.isCtl s[k] = true)) : CutInv c s o (k + 1) (done ++ [s[k]]) := by
  unfold CutInv at *
  rw [h, drop_one s k hk, Prs.cutF_txt c s[k] _ h1 h2]
  simp only [List.append_assoc, List.cons_append, List.nil_append, Prod.mk.injEq, true_and]
  omega
theorem CutInv.two {s : ByteArray} {o k : Nat} {done : List UInt8} (h : CutInv true s o k done) (ho : o ≤ k) (hk : k + 1 < s.size) (h1 : s[k].toNat = 16) (h2 : s[k + 1].toNat = 16) : CutInv true s o (k + 1 + 1) (done ++ [s[k + 1]]) := by
  unfold CutInv at *
  rw [h, drop_one s k (by omega), drop_one s (k + 1) hk, Prs.cutF_two _ _ _ h1 h2]
  simp only [List.append_assoc, List.cons_append, List.nil_append, Prod.mk.injEq, true_and]
  omega
theorem CutInv.fin {c : Bool} {s : ByteArray} {o k : Nat} {done : List UInt8} (h : CutInv c s o k done) (hk : s.size ≤ k) : Prs.cutF c (s.data.toList.drop o) = (done, 0, k - o) := by
  unfold CutInv at h
  rw [h, List.drop_of_length_le (by simpa using hk)]
  simp [Prs.cutF]
theorem CutInv.ctl {s : ByteArray} {o k : Nat} {done : List UInt8} (h : CutInv false s o k done) (hk : k < s.size) (h1 : Blk.isCtl s[k] = true) : Prs.cutF false (s.data.toList.drop o) = (done, s[k], k - o + 1) := by
  unfold CutInv at h
  rw [h, drop_one s k hk, Prs.cutF_ctl _ _ h1, List.append_nil]
theorem CutInv.out {s : ByteArray} {o k : Nat} {done : List UInt8} (h : CutInv true s o k done) (hk : k + 1 < s.size) (h1 : s[k].toNat = 16) (h2 : ¬ s[k + 1].toNat = 16) : Prs.cutF true (s.data.toList.drop o) = (done, s[k + 1], k - o + 2) := by
  unfold CutInv at h
  rw [h, drop_one s k (by omega), drop_one s (k + 1) hk, Prs.cutF_out _ _ _ h1 h2, List.append_nil]
theorem CutInv.lone {s : ByteArray} {o k : Nat} {done : List UInt8} (h : CutInv true s o k done) (hk : k + 1 = s.size) (h1 : s[k].toNat = 16) : Prs.cutF true (s.data.toList.drop o) = (done, 0, k - o + 2) := by
  unfold CutInv at h
  rw [h, drop_one s k (by omega), List.drop_of_length_le (by simp; omega), Prs.cutF_lone _ h1, List.append_nil]

/-- What a cut answers. -/
def CutAns (c : Bool) (s : ByteArray) (o : Nat) (r : ByteArray) (u : UInt8) (nx : Nat) : Prop :=
  Is r (Prs.cutF c (s.data.toList.drop o)).1 ∧ u = (Prs.cutF c (s.data.toList.drop o)).2.1 ∧ nx = o + (Prs.cutF c (s.data.toList.drop o)).2.2
theorem CutAns.mk {c : Bool} {s : ByteArray} {o n nx : Nat} {done : List UInt8} {u : UInt8} (h : Prs.cutF c (s.data.toList.drop o) = (done, u, n)) (hn : nx = o + n) : CutAns c s o ⟨done.toArray⟩ u nx := by
  unfold CutAns
  rw [h]
  exact ⟨rfl, rfl, hn⟩

theorem byteAt_in (s : ByteArray) (k : Nat) (w : World) (hs : s.size ≤ 140737488352000) (hk : k < s.size) :
    Calls Try.prog 67 #[.string s, .int .i64 k] w fun e w' => e = .returned (.int .u8 s[k].toNat) ∧ w' = w := by
  have h := byteAt_any s k w hs (by omega)
  rw [getD_in s k hk] at h
  exact h
theorem byteAt_out (s : ByteArray) (k : Nat) (w : World) (hs : s.size ≤ 140737488352000) (hk : ¬ k < s.size) (hk2 : k ≤ 300000000000000) :
    Calls Try.prog 67 #[.string s, .int .i64 k] w fun e w' => e = .returned (.int .u8 0) ∧ w' = w := by
  have h := byteAt_any s k w hs hk2
  rw [getD_out s k hk] at h
  exact h

set_option maxHeartbeats 2000000 in
theorem foundPart_any (s : ByteArray) (o : Nat) (c : Bool) (w : World) (hs : s.size ≤ 140737488352000) (_ho : o ≤ 200000000000000) :
    Calls Try.prog 79 #[.string s, .int .i64 o, .bool c] w fun e w' => ∃ (r : ByteArray) (u : UInt8) (nx : Nat), e = .returned (.tuple #[.string r, .int .u8 u.toNat, .int .i64 nx]) ∧ Hid (CutAns c s o r u nx) ∧ r.size ≤ s.size ∧ (nx ≤ s.size + 1 ∨ nx = o) ∧ Below w.heap.size w w' := by
  go_enter Try.func79, Try.ntmps79
  go_wp2
  go_loopw [1, 9] (fun i v wr => ∃ (k : Nat) (done : List UInt8), i = .int .i64 k ∧ o ≤ k ∧ (k ≤ s.size ∨ k = o) ∧ done.length ≤ k ∧ done.length ≤ s.size ∧ OwnB wr w.heap.size v done ∧ Hid (CutInv c s o k done) ∧ Below w.heap.size w wr) (fun i _ _ => s.size - (intOf i).toNat)
  case atStart => exact ⟨o, [], rfl, by omega, by omega, by simp, by simp, ownB_lit w w.heap.size #[] [] rfl (Nat.le_refl _) (by decide), CutInv.start c s o, (Below.refl _ _).alloc (Nat.le_refl _) _⟩
  case round =>
    obtain ⟨k, done, rfl, hok, hk, hdk, hds, hown, HI, hbel⟩ := hrel
    have hB := hbel.size
    by_cases hlt : k < s.size
    · have hlt' : (k : Int) < (s.size : Int) := by omega
      cases c
      · cases hc : Blk.isCtl s[k]
        · have HC := hide hc
          have HT := hide (HI.out.txt hok hlt (by simp) (by simp [hc]))
          clear hc
          go_wp2_with (first | (go_at_call 87; refine (isControl_any s[k] _).mono ?_; rintro e w1 ⟨rfl, rfl⟩; rw [HC.out]) | (at_builtin; refine app_one _ s[k] _ rfl rfl (.tmp 47) (.tmp 49) rfl w.heap.size _ _ _ 1 rfl rfl rfl hown (by omega) w hbel hB ?_; intro v1 W1 hown1 hbel1 hB1))
          go_roundw
          case rel => exact ⟨k + 1, _, by go_num, by omega, by omega, by simp; omega, by simp; omega, by assumption, HT, by assumption⟩
          case measure => simp [intOf]; omega
        · have HC := hide hc
          have HT := hide (HI.out.ctl hlt hc)
          have cv := conv_own _ _ _ _ hown
          have hz : (⟨done.toArray⟩ : ByteArray).size ≤ s.size := hds
          clear hc
          go_wp2_with (first | (go_at_call 87; refine (isControl_any s[k] _).mono ?_; rintro e w1 ⟨rfl, rfl⟩; rw [HC.out]))
          go_ret3
          exact ⟨_, s[k], k + 1, by simp, CutAns.mk HT.out (by omega), hds, by omega, by assumption⟩
      · by_cases h16 : s[k].toNat = 16
        · have hd : ((s[k].toNat : Int) == 16) = true := by simp [h16]
          by_cases hlt2 : k + 1 < s.size
          · by_cases h17 : s[k + 1].toNat = 16
            · have HT := hide (HI.out.two hok hlt2 h16 h17)
              have hd2 : ((s[k + 1].toNat : Int) != 16) = false := by simp [h17]
              have HB := hide (fun w => byteAt_in s (k + 1) w hs hlt2)
              have HN : Hid ((k : Int) + 1 = ((k + 1 : Nat) : Int)) := by unfold Hid; omega
              clear h16 h17
              go_wp2_with (first | (go_at_call 67; rw [HN.out]; refine (HB.out _).mono ?_; rintro e w1 ⟨rfl, rfl⟩) | (at_builtin; refine app_one _ s[k + 1] _ rfl rfl (.tmp 47) (.tmp 49) rfl w.heap.size _ _ _ 1 rfl rfl rfl hown (by omega) w hbel hB ?_; intro v1 W1 hown1 hbel1 hB1))
              go_roundw
              case rel => exact ⟨k + 1 + 1, _, by go_num, by omega, by omega, by simp; omega, by simp; omega, by assumption, HT, by assumption⟩
              case measure => simp [intOf]; omega
            · have HT := hide (HI.out.out hlt2 h16 h17)
              have hd2 : ((s[k + 1].toNat : Int) != 16) = true := by simp; omega
              have HB := hide (fun w => byteAt_in s (k + 1) w hs hlt2)
              have HN : Hid ((k : Int) + 1 = ((k + 1 : Nat) : Int)) := by unfold Hid; omega
              have cv := conv_own _ _ _ _ hown
              clear h16 h17
              go_wp2_with (first | (go_at_call 67; rw [HN.out]; refine (HB.out _).mono ?_; rintro e w1 ⟨rfl, rfl⟩))
              go_ret3
              exact ⟨_, s[k + 1], k + 1 + 1, by simp, CutAns.mk HT.out (by omega), hds, by omega, by assumption⟩
          · have HT := hide (HI.out.lone (by omega) h16)
            have HB := hide (fun w => byteAt_out s (k + 1) w hs hlt2 (by omega))
            have HN : Hid ((k : Int) + 1 = ((k + 1 : Nat) : Int)) := by unfold Hid; omega
            have cv := conv_own _ _ _ _ hown
            clear h16
            go_wp2_with (first | (go_at_call 67; rw [HN.out]; refine (HB.out _).mono ?_; rintro e w1 ⟨rfl, rfl⟩))
            go_ret3
            exact ⟨_, 0, k + 1 + 1, by simp, CutAns.mk HT.out (by omega), hds, by omega, by assumption⟩
        · have hd : ((s[k].toNat : Int) == 16) = false := by simp; omega
          have HT := hide (HI.out.txt hok hlt (by simp [h16]) (by simp))
          clear h16
          go_wp2_with (first | (at_builtin; refine app_one _ s[k] _ rfl rfl (.tmp 47) (.tmp 49) rfl w.heap.size _ _ _ 1 rfl rfl rfl hown (by omega) w hbel hB ?_; intro v1 W1 hown1 hbel1 hB1))
          go_roundw
          case rel => exact ⟨k + 1, _, by go_num, by omega, by omega, by simp; omega, by simp; omega, by assumption, HT, by assumption⟩
          case measure => simp [intOf]; omega
    · have hlt' : ¬ (k : Int) < (s.size : Int) := by omega
      have HT := hide (HI.out.fin (by omega))
      have cv := conv_own _ _ _ _ hown
      go_wp2
      go_ret3
      exact ⟨_, 0, k, by simp, CutAns.mk HT.out (by omega), hds, by omega, by assumption⟩
end Go.Proofs.Ytlbpjcphhocdkaa
