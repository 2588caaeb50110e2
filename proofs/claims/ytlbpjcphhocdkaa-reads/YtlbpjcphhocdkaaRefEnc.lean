/- The document's functions beneath Encode: what may be sent. -/
import Derived.Test.YtlbpjcphhocdkaaEnc4
namespace Go.Proofs.Ytlbpjcphhocdkaa
open Go.RowKit

set_option maxHeartbeats 400000 in
theorem checked_any (c : Int) (w : World) :
    Calls Try.prog 42 #[.int .i64 c] w fun e w' => e = .returned (.bool (decide (c = 0 ∨ c = 1))) ∧ w' = w := by
  by_cases h0 : c = 0
  · subst h0
    go_enter Try.func42, Try.ntmps42
    go_wp2
    go_ret
    exact ⟨rfl, rfl⟩
  · by_cases h1 : c = 1
    · subst h1
      go_enter Try.func42, Try.ntmps42
      go_wp2
      go_ret
      exact ⟨rfl, rfl⟩
    · have e0 : (c == 0) = false := by simp [h0]
      have e1 : (c == 1) = false := by simp [h1]
      go_enter Try.func42, Try.ntmps42
      go_wp2
      go_ret
      exact ⟨by simp [h0, h1], rfl⟩

theorem isCtl_mem (u : UInt8) : Blk.isCtl u = decide (u ∈ ([1, 2, 3, 4, 5, 16, 21, 22, 23, 31] : List UInt8)) := by
  unfold Blk.isCtl
  simp only [List.mem_cons, List.not_mem_nil, or_false, ← UInt8.toNat_inj]
  rfl

theorem isCtl_no {u : UInt8} {cs : ByteArray} (h : cs.data.toList = [1, 2, 3, 4, 5, 16, 21, 22, 23, 31]) (hn : ∀ j (hj : j < cs.size), cs[j] ≠ u) : Blk.isCtl u = false := by
  rw [isCtl_mem, ← h]
  simp only [decide_eq_false_iff_not]
  intro hm
  obtain ⟨j, hj, e⟩ := List.mem_iff_getElem.1 hm
  exact hn j (by simpa using hj) e
theorem isCtl_yes {u : UInt8} {cs : ByteArray} (h : cs.data.toList = [1, 2, 3, 4, 5, 16, 21, 22, 23, 31]) (j : Nat) (hj : j < cs.size) (e : cs[j] = u) : Blk.isCtl u = true := by
  rw [isCtl_mem, ← h]
  simp only [decide_eq_true_eq]
  exact List.mem_iff_getElem.2 ⟨j, by simpa using hj, e⟩

set_option maxHeartbeats 2000000 in
theorem plain_any (s : ByteArray) (w : World) (hs : s.size ≤ 140737488352000) :
    Calls Try.prog 63 #[.string s] w fun e w' => e = .returned (.bool (!Blk.hasCtl s.data.toList)) ∧ ∃ n, w' = w.drewN n := by
  go_enter Try.func63, Try.ntmps63
  go_wp2
  obtain ⟨cs, hcs⟩ : ∃ cs : ByteArray, cs = ⟨#[1, 2, 3, 4, 5, 16, 21, 22, 23, 31]⟩ := ⟨_, rfl⟩
  rw [← hcs]
  have HCS : Hid (cs.data.toList = [1, 2, 3, 4, 5, 16, 21, 22, 23, 31]) := by rw [hcs]; rfl
  have hcz : cs.size ≤ 100 := by rw [hcs]; decide
  clear hcs
  go_loopw [4] (fun i wr => ∃ k : Nat, k ≤ s.size ∧ i = .int .i64 k ∧ Hid (Blk.hasCtl (s.data.toList.take k) = false) ∧ ∃ n, wr = w.drewN n) (fun i _ => s.size - (intOf i).toNat)
  case atStart => exact ⟨0, by omega, rfl, rfl, 0, rfl⟩
  case round =>
    obtain ⟨k, hk, rfl, HN, n, rfl⟩ := hrel
    by_cases hlt : k < s.size
    · have HT := hide (take_snoc s k hlt)
      have hlt' : (k : Int) < (s.size : Int) := by omega
      have hk0 : (0 : Int) ≤ (k : Int) := by omega
      go_wp2
      go_loopw [5] (fun i wr => ∃ m : Nat, m ≤ cs.size ∧ i = .int .i64 m ∧ Hid (∀ j (hj : j < cs.size), j < m → cs[j] ≠ s[k]) ∧ ∃ n, wr = w.drewN n) (fun i _ => cs.size - (intOf i).toNat)
      case atStart => exact ⟨0, by omega, rfl, fun j _ h => by omega, n, rfl⟩
      case round =>
        obtain ⟨m, hm, rfl, HM, n2, rfl⟩ := hrel
        by_cases hlm : m < cs.size
        · have hlm' : (m : Int) < (cs.size : Int) := by omega
          have hm0 : (0 : Int) ≤ (m : Int) := by omega
          by_cases he : cs[m] = s[k]
          · have hd : ((s[k].toNat : Int) == (cs[m].toNat : Int)) = true := by rw [he]; simp
            have HF : Hid (Blk.hasCtl s.data.toList = true) := Blk.hasCtl_take (k := k + 1) (by rw [HT.out, Blk.hasCtl_snoc, isCtl_yes HCS.out m hlm he]; simp)
            have HE := hide he
            clear he
            go_wp2
            go_quiet (fail)
            go_wp2
            go_ret
            exact ⟨by rw [HF.out]; rfl, _, World.drewN_drewN _ _ _⟩
          · have hd : ((s[k].toNat : Int) == (cs[m].toNat : Int)) = false := by
              simp only [beq_eq_false_iff_ne, ne_eq]
              intro h
              exact he (UInt8.toNat_inj.1 (by omega))
            have HE := hide he
            clear he
            go_wp2
            go_quiet (fail)
            go_wp2
            go_roundw
            case rel => exact ⟨m + 1, by omega, by go_num, fun j hj h => by
              by_cases hjm : j = m
              · subst hjm; exact HE.out
              · exact HM.out j hj (by omega), _, rfl⟩
            case measure => simp [intOf]; omega
        · have HC : Hid (Blk.isCtl s[k] = false) := isCtl_no HCS.out (fun j hj => HM.out j hj (by omega))
          have hlm' : ¬ (m : Int) < (cs.size : Int) := by omega
          go_wp2
          go_roundw
          case rel => exact ⟨k + 1, by omega, by go_num, by rw [Hid, HT.out, Blk.hasCtl_snoc, HN.out, HC.out]; rfl, _, rfl⟩
          case measure => simp [intOf]; omega
    · have HT : Hid (s.data.toList.take k = s.data.toList) := List.take_of_length_le (by simp; omega)
      go_wp2
      go_ret
      exact ⟨by rw [← HT.out, HN.out]; rfl, n, rfl⟩


theorem head_no (h : ByteArray) : Blk.headOk h.data.toList = (!(Blk.hasCtl h.data.toList) && decide (h.size ≤ 8)) := by
  unfold Blk.headOk
  rw [size_list, Bool.and_comm]

set_option maxHeartbeats 2000000 in
theorem refused_any (h : ByteArray) (a : Option Addr) (l : List ByteArray) (cap : Nat) (c t : Bool) (w : World)
    (hh : h.size ≤ 140737488352000) (hl : ∀ s ∈ l, s.size ≤ 140737488352000) (hn : l.length ≤ 140737488352000) (ht : Texts w a l) :
    Calls Try.prog 43 #[.agg #[.string h, .slice a l.length cap, .bool c, .bool t]] w fun e w' => e = .returned (.int .i64 (Blk.berr h.data.toList (datas l) c)) ∧ Below w.heap.size w w' := by
  have HFB : Hid (∀ n, Below w.heap.size w ((w.alloc (.cells #[.string h, .slice a l.length cap, .bool c, .bool t] 30)).drewN n)) := fun n => below_drewN ((Below.refl _ _).alloc (Nat.le_refl _) _) n
  cases hk : Blk.headOk h.data.toList
  · have HE : Hid (Blk.berr h.data.toList (datas l) c = 2) := by simp [Hid, Blk.berr, hk]
    rw [head_no] at hk
    cases hc : Blk.hasCtl h.data.toList
    · have h8 : ¬ h.size ≤ 8 := by rw [hc] at hk; simpa using hk
      have h8' : 8 < (h.size : Int) := by omega
      have HC := hide hc
      clear hk hc
      go_enter Try.func43, Try.ntmps43
      go_wp2_with (first | (go_at_call 63; refine (plain_any h _ hh).mono ?_; rintro e w1 ⟨rfl, n1, rfl⟩; rw [HC.out]))
      go_ret
      exact ⟨by rw [HE.out]; rfl, HFB.out _⟩
    · have HC := hide hc
      clear hk hc
      go_enter Try.func43, Try.ntmps43
      go_wp2_with (first | (go_at_call 63; refine (plain_any h _ hh).mono ?_; rintro e w1 ⟨rfl, n1, rfl⟩; rw [HC.out]))
      go_ret
      exact ⟨by rw [HE.out]; rfl, HFB.out _⟩
  · have HC : Hid (Blk.hasCtl h.data.toList = false) := by rw [head_no] at hk; simp at hk; exact hk.1
    have h8 : h.size ≤ 8 := by rw [head_no] at hk; simp at hk; exact hk.2
    have h8' : ¬ 8 < (h.size : Int) := by omega
    by_cases hp : l.length < 1 ∨ 4 < l.length
    · have HE : Hid (Blk.berr h.data.toList (datas l) c = 3) := by simp only [Hid, Blk.berr, hk, datas_length]; rw [if_neg (by simp), if_pos hp]
      clear hk
      rcases hp with hp | hp
      · have hp' : ((l.length : Int) == 0) = true := beq_iff_eq.2 (by omega)
        go_enter Try.func43, Try.ntmps43
        go_wp2_with (first | (go_at_call 63; refine (plain_any h _ hh).mono ?_; rintro e w1 ⟨rfl, n1, rfl⟩; rw [HC.out]))
        go_ret
        exact ⟨by rw [HE.out]; rfl, HFB.out _⟩
      · have hp1 : ((l.length : Int) == 0) = false := beq_eq_false_iff_ne.2 (by omega)
        have hp2 : 4 < (l.length : Int) := by omega
        go_enter Try.func43, Try.ntmps43
        go_wp2_with (first | (go_at_call 63; refine (plain_any h _ hh).mono ?_; rintro e w1 ⟨rfl, n1, rfl⟩; rw [HC.out]))
        go_ret
        exact ⟨by rw [HE.out]; rfl, HFB.out _⟩
    · have hp1 : ((l.length : Int) == 0) = false := beq_eq_false_iff_ne.2 (by omega)
      have hp2 : decide (4 < (l.length : Int)) = false := by simp; omega
      have hp3 : l.length ≤ 4 := by omega
      have HE : Hid (Blk.berr h.data.toList (datas l) c = if (datas l).all (Blk.partOk c) = false then 4 else 0) := by simp only [Hid, Blk.berr, hk, datas_length]; rw [if_neg (by simp), if_neg hp]
      obtain ⟨b, o, rfl, hcell⟩ : ∃ b o, a = some ⟨b, o, none⟩ ∧ ∀ i, i < l.length → w.cell? ⟨b, o + i, none⟩ = some (.string (l.getD i ByteArray.empty)) := by
        rcases ht with h | h
        · subst h; simp at hp
        · exact h
      clear hk hp ht
      have d8 : decide (8 < (h.size : Int)) = false := by simp; omega
      have HCL := hide hcell
      have HLL := hide hl
      clear hcell hl
      go_enter Try.func43, Try.ntmps43
      go_wp2_with (first | (go_at_call 63; refine (plain_any h _ hh).mono ?_; rintro e w1 ⟨rfl, n1, rfl⟩; rw [HC.out]))
      go_loopw [4] (fun i wr => ∃ k : Nat, k ≤ l.length ∧ i = .int .i64 k ∧ Hid (((datas l).take k).all (Blk.partOk c) = true) ∧ BlkAt wr w.heap.size (.string h) (.slice (some ⟨b, o, none⟩) l.length cap) (.bool c) (.bool t) ∧ Below w.heap.size w wr) (fun i _ => l.length - (intOf i).toNat)
      case atStart => exact ⟨0, by omega, rfl, by simp [Hid], BlkAt.new _ _ _ _ _, HFB.out _⟩
      case round =>
        obtain ⟨k, hk2, rfl, HA, hblk, hbel⟩ := hrel
        have c1 := hblk.cell1
        have c2 := hblk.cell2
        by_cases hlt : k < l.length
        · have hcl := HCL.out k hlt
          have hb := World.block_lt_of_cell? w _ hcl
          rw [← hbel.cell hb] at hcl
          have hsz : (l.getD k ByteArray.empty).size ≤ 140737488352000 := by
            have : l.getD k ByteArray.empty = l[k] := by simp [List.getD, List.getElem?_eq_getElem hlt]
            rw [this]; exact HLL.out _ (List.getElem_mem hlt)
          have HT := hide (all_take_succ (Blk.partOk c) (datas l) k (by rw [datas_length]; exact hlt))
          rw [datas_getD] at HT
          generalize l.getD k ByteArray.empty = s at *
          have hlt' : (k : Int) < (l.length : Int) := by omega
          have HPO : Hid (Blk.partOk c s.data.toList = (decide (s.size ≤ 32) && (c || !Blk.hasCtl s.data.toList))) := by unfold Hid Blk.partOk; rw [size_list]
          have HNO : Hid (Blk.partOk c s.data.toList = false → Blk.berr h.data.toList (datas l) c = 4) := by
            intro hpo
            have h1 : ((datas l).take (k + 1)).all (Blk.partOk c) = false := by rw [HT.out, hpo]; simp
            have h5 : (datas l).all (Blk.partOk c) = false := by
              cases h2 : (datas l).all (Blk.partOk c)
              · rfl
              · have h3 := List.all_eq_true.1 h2
                have h4 : ((datas l).take (k + 1)).all (Blk.partOk c) = true := List.all_eq_true.2 fun x hx => h3 x (List.mem_of_mem_take hx)
                rw [h1] at h4; cases h4
            rw [HE.out, h5]; rfl
          cases hct : Blk.hasCtl s.data.toList
          · have HCT := hide hct
            clear hct
            by_cases h32 : s.size ≤ 32
            · have h32' : ¬ 32 < (s.size : Int) := by omega
              have HY : Hid (Blk.partOk c s.data.toList = true) := by rw [Hid, HPO.out, HCT.out]; simp [h32]
              go_wp2_with (first | (go_at_call 63; refine (plain_any s _ hsz).mono ?_; rintro e w1 ⟨rfl, n1, rfl⟩; rw [HCT.out]))
              go_roundw
              case rel => exact ⟨k + 1, by omega, by go_num, by rw [Hid, HT.out, HA.out, HY.out]; rfl, hblk, below_drewN hbel _⟩
              case measure => simp [intOf]; omega
            · have h32' : 32 < (s.size : Int) := by omega
              have HY : Hid (Blk.partOk c s.data.toList = false) := by rw [Hid, HPO.out]; simp [h32]
              go_wp2_with (first | (go_at_call 63; refine (plain_any s _ hsz).mono ?_; rintro e w1 ⟨rfl, n1, rfl⟩; rw [HCT.out]))
              go_ret
              exact ⟨by rw [HNO.out HY.out]; rfl, below_drewN hbel _⟩
          · have HCT := hide hct
            clear hct
            by_cases h32 : s.size ≤ 32
            · have h32' : ¬ 32 < (s.size : Int) := by omega
              cases c
              · have HY : Hid (Blk.partOk false s.data.toList = false) := by rw [Hid, HPO.out, HCT.out]; simp
                go_wp2_with (first | (go_at_call 63; refine (plain_any s _ hsz).mono ?_; rintro e w1 ⟨rfl, n1, rfl⟩; rw [HCT.out]))
                go_ret
                exact ⟨by rw [HNO.out HY.out]; rfl, below_drewN hbel _⟩
              · have HY : Hid (Blk.partOk true s.data.toList = true) := by rw [Hid, HPO.out]; simp [h32]
                go_wp2_with (first | (go_at_call 63; refine (plain_any s _ hsz).mono ?_; rintro e w1 ⟨rfl, n1, rfl⟩; rw [HCT.out]))
                go_roundw
                case rel => exact ⟨k + 1, by omega, by go_num, by rw [Hid, HT.out, HA.out, HY.out]; rfl, hblk, below_drewN hbel _⟩
                case measure => simp [intOf]; omega
            · have h32' : 32 < (s.size : Int) := by omega
              have HY : Hid (Blk.partOk c s.data.toList = false) := by rw [Hid, HPO.out]; simp [h32]
              go_wp2_with (first | (go_at_call 63; refine (plain_any s _ hsz).mono ?_; rintro e w1 ⟨rfl, n1, rfl⟩; rw [HCT.out]))
              go_ret
              exact ⟨by rw [HNO.out HY.out]; rfl, below_drewN hbel _⟩
        · obtain rfl : k = l.length := by omega
          have hlt' : ¬ (l.length : Int) < (l.length : Int) := by omega
          go_wp2
          go_ret
          refine ⟨?_, hbel⟩
          have hal : (datas l).all (Blk.partOk c) = true := by
            have := HA.out
            rw [List.take_of_length_le (by rw [datas_length]; omega)] at this
            exact this
          rw [HE.out, hal]
          rfl
end Go.Proofs.Ytlbpjcphhocdkaa
