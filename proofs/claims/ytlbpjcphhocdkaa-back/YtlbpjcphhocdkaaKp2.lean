/- The statements' own functions over blocks: good, valid, refused, coded. -/
import Derived.Test.YtlbpjcphhocdkaaKp1
import Derived.Test.YtlbpjcphhocdkaaHr
namespace Go.Proofs.Ytlbpjcphhocdkaa
open Go.RowKit

theorem head_eq (h : ByteArray) : Blk.headOk h.data.toList = (!(Blk.hasCtl h.data.toList) && decide (h.size ≤ 8)) := by
  unfold Blk.headOk
  rw [size_list, Bool.and_comm]
theorem berr_bad {h : List UInt8} {ps : List (List UInt8)} {c : Bool} (e : ¬ Blk.berr h ps c = 0) : decide (Blk.berr h ps c = 0) = false := by simp [e]

set_option maxHeartbeats 4000000 in
theorem good_any (h : ByteArray) (a : Option Addr) (l : List ByteArray) (cap : Nat) (c t : Bool) (w : World)
    (hh : h.size ≤ 140737488352000) (hl : ∀ s ∈ l, s.size ≤ 140737488352000) (hn : l.length ≤ 140737488352000) (ht : Texts w a l) :
    Calls Try.prog 54 #[.agg #[.string h, .slice a l.length cap, .bool c, .bool t]] w fun e w' => e = .returned (.bool (decide (Blk.berr h.data.toList (datas l) c = 0))) ∧ Below w.heap.size w w' := by
  have HFB : Hid (∀ n, Below w.heap.size w ((w.alloc (.cells #[.string h, .slice a l.length cap, .bool c, .bool t] 30)).drewN n)) := fun n => below_drewN ((Below.refl _ _).alloc (Nat.le_refl _) _) n
  have HFA : Hid (Below w.heap.size w (w.alloc (.cells #[.string h, .slice a l.length cap, .bool c, .bool t] 30))) := (Below.refl _ _).alloc (Nat.le_refl _) _
  cases hk : Blk.headOk h.data.toList
  · have HE : Hid (decide (Blk.berr h.data.toList (datas l) c = 0) = false) := by simp [Hid, Blk.berr, hk]
    rw [head_eq] at hk
    cases hc : Blk.hasCtl h.data.toList
    · have h8 : ¬ h.size ≤ 8 := by rw [hc] at hk; simpa using hk
      have h8' : 8 < (h.size : Int) := by omega
      have HC := hide hc
      clear hk hc
      go_enter Try.func54, Try.ntmps54
      go_wp2_with (first | (go_at_call 73; refine (kplain_any h _ hh).mono ?_; rintro e w1 ⟨rfl, rfl⟩; rw [HC.out]))
      go_ret
      exact ⟨by rw [HE.out]; rfl, HFA.out⟩
    · have HC := hide hc
      clear hk hc
      go_enter Try.func54, Try.ntmps54
      go_wp2_with (first | (go_at_call 73; refine (kplain_any h _ hh).mono ?_; rintro e w1 ⟨rfl, rfl⟩; rw [HC.out]))
      go_ret
      exact ⟨by rw [HE.out]; rfl, HFA.out⟩
  · have HC : Hid (Blk.hasCtl h.data.toList = false) := by rw [head_eq] at hk; simp at hk; exact hk.1
    have h8 : h.size ≤ 8 := by rw [head_eq] at hk; simp at hk; exact hk.2
    have h8' : ¬ 8 < (h.size : Int) := by omega
    have d8 : decide (8 < (h.size : Int)) = false := by simp; omega
    by_cases hp : l.length < 1 ∨ 4 < l.length
    · have HE : Hid (decide (Blk.berr h.data.toList (datas l) c = 0) = false) := by simp only [Hid, Blk.berr, hk, datas_length]; rw [if_neg (by simp), if_pos hp]; rfl
      clear hk
      rcases hp with hp | hp
      · have hp' : (l.length : Int) < 1 := by omega
        go_enter Try.func54, Try.ntmps54
        go_wp2_with (first | (go_at_call 73; refine (kplain_any h _ hh).mono ?_; rintro e w1 ⟨rfl, rfl⟩; rw [HC.out]))
        go_ret
        exact ⟨by rw [HE.out]; rfl, HFA.out⟩
      · have hp1 : ¬ (l.length : Int) < 1 := by omega
        have hp2 : 4 < (l.length : Int) := by omega
        go_enter Try.func54, Try.ntmps54
        go_wp2_with (first | (go_at_call 73; refine (kplain_any h _ hh).mono ?_; rintro e w1 ⟨rfl, rfl⟩; rw [HC.out]))
        go_ret
        exact ⟨by rw [HE.out]; rfl, HFA.out⟩
    · have hp1 : ¬ (l.length : Int) < 1 := by omega
      have hp2 : ¬ 4 < (l.length : Int) := by omega
      have e1 : decide ((l.length : Int) < 1) = false := by simp; omega
      have e2 : decide (4 < (l.length : Int)) = false := by simp; omega
      have hp3 : l.length ≤ 4 := by omega
      have HE : Hid (Blk.berr h.data.toList (datas l) c = if (datas l).all (Blk.partOk c) = false then 4 else 0) := by simp only [Hid, Blk.berr, hk, datas_length]; rw [if_neg (by simp), if_neg hp]
      obtain ⟨b, o, rfl, hcell⟩ : ∃ b o, a = some ⟨b, o, none⟩ ∧ ∀ i, i < l.length → w.cell? ⟨b, o + i, none⟩ = some (.string (l.getD i ByteArray.empty)) := by
        rcases ht with h | h
        · subst h; simp at hp
        · exact h
      clear hk hp ht
      have HCL := hide hcell
      have HLL := hide hl
      clear hcell hl
      go_enter Try.func54, Try.ntmps54
      go_wp2_with (first | (go_at_call 73; refine (kplain_any h _ hh).mono ?_; rintro e w1 ⟨rfl, rfl⟩; rw [HC.out]))
      go_loopw [4] (fun i wr => ∃ k : Nat, k ≤ l.length ∧ i = .int .i64 k ∧ Hid (((datas l).take k).all (Blk.partOk c) = true) ∧ BlkAt wr w.heap.size (.string h) (.slice (some ⟨b, o, none⟩) l.length cap) (.bool c) (.bool t) ∧ Below w.heap.size w wr) (fun i _ => l.length - (intOf i).toNat)
      case atStart => exact ⟨0, by omega, rfl, by simp [Hid], BlkAt.new _ _ _ _ _, HFA.out⟩
      case round =>
        obtain ⟨k, hk2, rfl, HA, hblk, hbel⟩ := hrel
        have c1 := hblk.cell1
        have c2 := hblk.cell2
        by_cases hlt : k < l.length
        · have hcl := HCL.out k hlt
          have hb := World.block_lt_of_cell? w _ hcl
          rw [← hbel.cell hb] at hcl
          have hsz : (l.getD k ByteArray.empty).size ≤ 140737488352000 := by
            have : l.getD k ByteArray.empty = l[k] := by simp [List.getD, List.getElem?_eq_getElem hlt]
            rw [this]; exact HLL.out _ (List.getElem_mem hlt)
          have HT := hide (all_take_succ (Blk.partOk c) (datas l) k (by rw [datas_length]; exact hlt))
          rw [datas_getD] at HT
          generalize l.getD k ByteArray.empty = s at *
          have hlt' : (k : Int) < (l.length : Int) := by omega
          have HPO : Hid (Blk.partOk c s.data.toList = (decide (s.size ≤ 32) && (c || !Blk.hasCtl s.data.toList))) := by unfold Hid Blk.partOk; rw [size_list]
          have HNO : Hid (Blk.partOk c s.data.toList = false → decide (Blk.berr h.data.toList (datas l) c = 0) = false) := by
            intro hpo
            have h1 : ((datas l).take (k + 1)).all (Blk.partOk c) = false := by rw [HT.out, hpo]; simp
            have h5 : (datas l).all (Blk.partOk c) = false := by
              cases h2 : (datas l).all (Blk.partOk c)
              · rfl
              · have h3 := List.all_eq_true.1 h2
                have h4 : ((datas l).take (k + 1)).all (Blk.partOk c) = true := List.all_eq_true.2 fun x hx => h3 x (List.mem_of_mem_take hx)
                rw [h1] at h4; cases h4
            rw [HE.out, h5]; rfl
          cases hct : Blk.hasCtl s.data.toList
          · have HCT := hide hct
            clear hct
            by_cases h32 : s.size ≤ 32
            · have h32' : ¬ 32 < (s.size : Int) := by omega
              have HY : Hid (Blk.partOk c s.data.toList = true) := by rw [Hid, HPO.out, HCT.out]; simp [h32]
              go_wp2_with (first | (go_at_call 73; refine (kplain_any s _ hsz).mono ?_; rintro e w1 ⟨rfl, rfl⟩; rw [HCT.out]))
              go_roundw
              case rel => exact ⟨k + 1, by omega, by go_num, by rw [Hid, HT.out, HA.out, HY.out]; rfl, hblk, hbel⟩
              case measure => simp [intOf]; omega
            · have h32' : 32 < (s.size : Int) := by omega
              have HY : Hid (Blk.partOk c s.data.toList = false) := by rw [Hid, HPO.out]; simp [h32]
              go_wp2_with (first | (go_at_call 73; refine (kplain_any s _ hsz).mono ?_; rintro e w1 ⟨rfl, rfl⟩; rw [HCT.out]))
              go_ret
              exact ⟨by rw [HNO.out HY.out]; rfl, hbel⟩
          · have HCT := hide hct
            clear hct
            by_cases h32 : s.size ≤ 32
            · have h32' : ¬ 32 < (s.size : Int) := by omega
              cases c
              · have HY : Hid (Blk.partOk false s.data.toList = false) := by rw [Hid, HPO.out, HCT.out]; simp
                go_wp2_with (first | (go_at_call 73; refine (kplain_any s _ hsz).mono ?_; rintro e w1 ⟨rfl, rfl⟩; rw [HCT.out]))
                go_ret
                exact ⟨by rw [HNO.out HY.out]; rfl, hbel⟩
              · have HY : Hid (Blk.partOk true s.data.toList = true) := by rw [Hid, HPO.out]; simp [h32]
                go_wp2_with (first | (go_at_call 73; refine (kplain_any s _ hsz).mono ?_; rintro e w1 ⟨rfl, rfl⟩; rw [HCT.out]))
                go_roundw
                case rel => exact ⟨k + 1, by omega, by go_num, by rw [Hid, HT.out, HA.out, HY.out]; rfl, hblk, hbel⟩
                case measure => simp [intOf]; omega
            · have h32' : 32 < (s.size : Int) := by omega
              have HY : Hid (Blk.partOk c s.data.toList = false) := by rw [Hid, HPO.out]; simp [h32]
              go_wp2_with (first | (go_at_call 73; refine (kplain_any s _ hsz).mono ?_; rintro e w1 ⟨rfl, rfl⟩; rw [HCT.out]))
              go_ret
              exact ⟨by rw [HNO.out HY.out]; rfl, hbel⟩
        · obtain rfl : k = l.length := by omega
          have hlt' : ¬ (l.length : Int) < (l.length : Int) := by omega
          go_wp2
          go_ret
          refine ⟨?_, hbel⟩
          have hal : (datas l).all (Blk.partOk c) = true := by
            have := HA.out
            rw [List.take_of_length_le (by rw [datas_length]; omega)] at this
            exact this
          rw [HE.out, hal]
          rfl

set_option maxHeartbeats 1000000 in
theorem valid_any (h : ByteArray) (a : Option Addr) (l : List ByteArray) (cap : Nat) (c t : Bool) (k : Int) (w : World)
    (hh : h.size ≤ 140737488352000) (hl : ∀ s ∈ l, s.size ≤ 140737488352000) (hn : l.length ≤ 140737488352000) (ht : Texts w a l) :
    Calls Try.prog 28 #[.agg #[.string h, .slice a l.length cap, .bool c, .bool t], .int .i64 k] w fun e w' => e = .returned (.bool (decide (Blk.encE h.data.toList (datas l) c k = 0))) ∧ Below w.heap.size w w' := by
  have HB0 : Hid (Below w.heap.size w (w.alloc (.cells #[.string h, .slice a l.length cap, .bool c, .bool t] 30))) := (Below.refl _ _).alloc (Nat.le_refl _) _
  have HT := hide (ht.below HB0.out)
  have HL := hide hl
  clear hl ht
  cases hz : decide (Blk.berr h.data.toList (datas l) c = 0)
  · have HZ := hide hz
    have HE : Hid (decide (Blk.encE h.data.toList (datas l) c k = 0) = false) := by
      simp only [decide_eq_false_iff_not] at hz
      unfold Hid Blk.encE
      split
      · simp [hz]
      · rfl
    clear hz
    go_enter Try.func28, Try.ntmps28
    go_wp2_with (first | (go_at_call 54; refine (good_any h a l cap c t _ hh HL.out hn HT.out).mono ?_; rintro e w1 ⟨rfl, hb1⟩; rw [HZ.out]))
    go_ret
    exact ⟨by rw [HE.out]; rfl, below_step HB0.out (by assumption)⟩
  · have HZ := hide hz
    simp only [decide_eq_true_eq] at hz
    by_cases h0 : k = 0
    · have d0 : (k == 0) = true := by simp [h0]
      have HE : Hid (decide (Blk.encE h.data.toList (datas l) c k = 0) = true) := by simp [Hid, Blk.encE, h0, hz]
      clear hz h0
      go_enter Try.func28, Try.ntmps28
      go_wp2_with (first | (go_at_call 54; refine (good_any h a l cap c t _ hh HL.out hn HT.out).mono ?_; rintro e w1 ⟨rfl, hb1⟩; rw [HZ.out]))
      go_ret
      exact ⟨by rw [HE.out]; rfl, below_step HB0.out (by assumption)⟩
    · have d0 : (k == 0) = false := by simp [h0]
      by_cases h1 : k = 1
      · have d1 : (k == 1) = true := by simp [h1]
        have HE : Hid (decide (Blk.encE h.data.toList (datas l) c k = 0) = true) := by simp [Hid, Blk.encE, h1, hz]
        clear hz h0 h1
        go_enter Try.func28, Try.ntmps28
        go_wp2_with (first | (go_at_call 54; refine (good_any h a l cap c t _ hh HL.out hn HT.out).mono ?_; rintro e w1 ⟨rfl, hb1⟩; rw [HZ.out]))
        go_ret
        exact ⟨by rw [HE.out]; rfl, below_step HB0.out (by assumption)⟩
      · have d1 : (k == 1) = false := by simp [h1]
        have HE : Hid (decide (Blk.encE h.data.toList (datas l) c k = 0) = false) := by simp [Hid, Blk.encE, h0, h1]
        clear hz h0 h1
        go_enter Try.func28, Try.ntmps28
        go_wp2_with (first | (go_at_call 54; refine (good_any h a l cap c t _ hh HL.out hn HT.out).mono ?_; rintro e w1 ⟨rfl, hb1⟩; rw [HZ.out]))
        go_ret
        exact ⟨by rw [HE.out]; rfl, below_step HB0.out (by assumption)⟩

set_option maxHeartbeats 1000000 in
theorem refusedK_any (h : ByteArray) (a : Option Addr) (l : List ByteArray) (cap : Nat) (c t : Bool) (k : Int) (w : World)
    (hh : h.size ≤ 140737488352000) (hl : ∀ s ∈ l, s.size ≤ 140737488352000) (hn : l.length ≤ 140737488352000) (ht : Texts w a l) (hE : ¬ Blk.encE h.data.toList (datas l) c k = 0) :
    Calls Try.prog 29 #[.agg #[.string h, .slice a l.length cap, .bool c, .bool t], .int .i64 k] w fun e w' => e = .returned (.bool true) ∧ Below w.heap.size w w' := by
  have HB0 : Hid (Below w.heap.size w (w.alloc (.cells #[.string h, .slice a l.length cap, .bool c, .bool t] 30))) := (Below.refl _ _).alloc (Nat.le_refl _) _
  have HEN := hide (encode_any h a l cap c t k (w.alloc (.cells #[.string h, .slice a l.length cap, .bool c, .bool t] 30)) hh hl hn (ht.below HB0.out))
  have hS : Blk.encS h.data.toList (datas l) c t k = [] := by simp [Blk.encS, hE]
  rw [hS] at HEN
  generalize Blk.encE h.data.toList (datas l) c k = z at *
  have hnz : (z != 0) = true := by simp [hE]
  clear hl ht hS hE
  go_enter Try.func29, Try.ntmps29
  go_wp2_with (first | (go_at_call 17; refine HEN.out.mono ?_; rintro e w1 ⟨rfl, hb1⟩))
  go_ret
  exact ⟨rfl, below_step HB0.out (by assumption)⟩

set_option maxHeartbeats 1000000 in
theorem coded_any (h : ByteArray) (a : Option Addr) (l : List ByteArray) (cap : Nat) (c t : Bool) (k : Int) (w : World)
    (hh : h.size ≤ 140737488352000) (hl : ∀ s ∈ l, s.size ≤ 140737488352000) (hn : l.length ≤ 140737488352000) (ht : Texts w a l) (hE : Blk.encE h.data.toList (datas l) c k = 0) :
    Calls Try.prog 30 #[.agg #[.string h, .slice a l.length cap, .bool c, .bool t], .int .i64 k] w fun e w' => ∃ r, e = .returned (.tuple #[.string r, .bool true]) ∧ Hid (Is r ([22, 22] ++ Blk.body h.data.toList (datas l) c t k ++ [255])) ∧ 6 ≤ r.size ∧ r.size ≤ 400 ∧ Below w.heap.size w w' := by
  have HB0 : Hid (Below w.heap.size w (w.alloc (.cells #[.string h, .slice a l.length cap, .bool c, .bool t] 30))) := (Below.refl _ _).alloc (Nat.le_refl _) _
  have HEN := hide (encode_any h a l cap c t k (w.alloc (.cells #[.string h, .slice a l.length cap, .bool c, .bool t] 30)) hh hl hn (ht.below HB0.out))
  have hS : Blk.encS h.data.toList (datas l) c t k = [22, 22] ++ Blk.body h.data.toList (datas l) c t k ++ [255] := by simp [Blk.encS, hE]
  have b1 := body_len t hE
  have b2 := body_le t hE
  rw [hS, hE] at HEN
  have hI := Is.mk ([22, 22] ++ Blk.body h.data.toList (datas l) c t k ++ [255])
  have hz := hI.size
  simp only [List.length_append, List.length_cons, List.length_nil] at hz
  generalize hr : (⟨([22, 22] ++ Blk.body h.data.toList (datas l) c t k ++ [255]).toArray⟩ : ByteArray) = r at *
  have HI := hide hI
  have hz6 : (6 : Int) ≤ (r.size : Int) := by omega
  have hz4 : 6 ≤ r.size ∧ r.size ≤ 400 := by omega
  clear hl ht hS hE hI hr hz b1 b2
  go_enter Try.func30, Try.ntmps30
  go_wp2_with (first | (go_at_call 17; refine HEN.out.mono ?_; rintro e w1 ⟨rfl, hb1⟩))
  go_ret2
  exact ⟨r, rfl, HI, hz4.1, hz4.2, below_step HB0.out (by assumption)⟩
end Go.Proofs.Ytlbpjcphhocdkaa
