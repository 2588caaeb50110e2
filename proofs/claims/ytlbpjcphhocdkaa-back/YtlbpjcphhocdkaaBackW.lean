/- The law Back, walked: what is encoded is read back, whatever stands ahead of it; what is no block is refused. -/
import Derived.Test.YtlbpjcphhocdkaaKp3
import Derived.Test.YtlbpjcphhocdkaaHr
namespace Go.Proofs.Ytlbpjcphhocdkaa
open Go.RowKit

set_option maxHeartbeats 4000000 in
theorem back_walk (h : ByteArray) (a : Option Addr) (l : List ByteArray) (cap : Nat) (c t : Bool) (k : Int) (s : ByteArray) (m : Int) (w : World)
    (hh : h.size ≤ 140737488352000) (hl : ∀ s ∈ l, s.size ≤ 140737488352000) (hn : l.length ≤ 9000000000000) (ht : Texts w a l) (hs : s.size ≤ 140737488351232) (hm0 : -9223372036854775808 ≤ m) (hm1 : m ≤ 9223372036854775807) :
    Calls Try.prog 9 #[.agg #[.string h, .slice a l.length cap, .bool c, .bool t], .int .i64 k, .string s, .int .i64 m] w fun e w' => e = .returned (.bool true) ∧ Below w.heap.size w w' := by
  have HB0 : Hid (Below w.heap.size w (w.alloc (.cells #[.string h, .slice a l.length cap, .bool c, .bool t] 30))) := (Below.refl _ _).alloc (Nat.le_refl _) _
  have HBK := hide (BlkAt.new w (.string h) (.slice a l.length cap) (.bool c) (.bool t))
  have HT := hide (ht.below HB0.out)
  have HL := hide hl
  clear hl ht
  by_cases hE : Blk.encE h.data.toList (datas l) c k = 0
  · have HV : Hid (decide (Blk.encE h.data.toList (datas l) c k = 0) = true) := by simp [Hid, hE]
    have HE := hide hE
    have hk : k = 0 ∨ k = 1 := (encE_good t [255] hE).kc
    have HK := hide hk
    clear hE hk
    go_enter Try.func9, Try.ntmps9
    go_wp2_with (first | (go_at_call 28; refine (valid_any h a l cap c t k _ hh HL.out (by omega) HT.out).mono ?_; rintro e w1 ⟨rfl, hb1⟩; rw [HV.out]; have hB1 := HBK.out.below hb1 (by simp); have d0 := hB1.cell0; have d1 := hB1.cell1; have d2 := hB1.cell2; have d3 := hB1.cell3; have HB1 := hide hB1; clear hB1) | (go_at_call 30; refine (coded_any h a l cap c t k _ hh HL.out (by omega) (HT.out.below hb1) HE.out).mono ?_; rintro e w2 ⟨r, rfl, HR, hr1, hr2, hb2⟩))
    have HB2 := hide (HB1.out.below hb2 (lt_of_block HB1.out))
    have HW2 := hide (below_step (below_step HB0.out hb1) hb2)
    have HT2 := hide ((HT.out.below hb1).below hb2)
    clear d0 d1 d2 d3 HB1 hb1 hb2 HBK HB0 HT
    go_loop [12] (fun i => ∃ j : Nat, j ≤ s.size ∧ i = .int .i64 j ∧ Hid (∀ u ∈ s.data.toList.take j, ¬ u.toNat = 22)) (fun i => s.size - (intOf i).toNat)
    case atStart => exact ⟨0, by omega, rfl, by simp [Hid]⟩
    case round =>
      obtain ⟨j, hj, rfl, HJ⟩ := hrel
      by_cases hgo : ∃ hlt : j < s.size, ¬ s[j].toNat = 22
      · obtain ⟨hlt, h22⟩ := hgo
        have HS := hide (take_snoc s j hlt)
        have hlt' : (j : Int) < (s.size : Int) := by omega
        have d22 : ((s[j].toNat : Int) != 22) = true := by simp; omega
        have HX := hide h22
        clear h22
        go_wp2
        go_round
        case rel => exact ⟨j + 1, by omega, by go_num, fun u hu => by
          rw [HS.out] at hu
          rcases List.mem_append.1 hu with h1 | h1
          · exact HJ.out u h1
          · simp at h1; subst h1; exact HX.out⟩
        case measure => simp [intOf]; omega
      · by_cases hlt : j < s.size
        · have h22 : s[j].toNat = 22 := by
            by_cases h : s[j].toNat = 22
            · exact h
            · exact absurd ⟨hlt, h⟩ hgo
          have hlt' : (j : Int) < (s.size : Int) := by omega
          have d22 : ((s[j].toNat : Int) != 22) = false := by simp [h22]
          clear h22 hgo
          go_wp2_with fail
          refine (pick_any m 4 _ hm0 hm1 (by omega) (by omega)).mono ?_
          rintro e w3 ⟨rfl, rfl⟩
          have hp := pickI_lt m 4 (by omega)
          have HX0 := hide (is_cut s 0 j)
          have hx0 : (s.extract 0 j).size ≤ s.size := by rw [HX0.out.size]; simp; omega
          simp only [List.drop_zero, Nat.sub_zero] at HX0
          generalize hpv : pickI m 4 = p at *
          generalize s.extract 0 j = x0 at *
          clear hpv
          go_wp2
          go_loop [13, 14] (fun x i => ∃ (q n : Nat) (xs : ByteArray), x = .string xs ∧ i = .int .i64 q ∧ q ≤ 3 ∧ q + n ≤ 3 ∧ Hid (Is xs (s.data.toList.take j ++ List.replicate n 22)) ∧ xs.size ≤ s.size + n) (fun _ i => (intOf i).toNat)
          case atStart => exact ⟨p.toNat, 0, x0, rfl, by congr 1; omega, by omega, by omega, by simpa using HX0, by omega⟩
          case round =>
            obtain ⟨q, n, xs, rfl, rfl, hq, hqn, HXS, hxs⟩ := hrel
            by_cases hq0 : 0 < q
            · have hq' : (0 : Int) < (q : Int) := by omega
              go_wp2
              go_round
              case rel => exact ⟨q - 1, n + 1, _, rfl, by congr 1; omega, by omega, by omega, by rw [Hid, List.replicate_succ', ← List.append_assoc]; exact HXS.out.append (Is.mk [22]), by have e : (⟨#[22]⟩ : ByteArray).size = 1 := rfl; rw [ByteArray.size_append, e]; omega⟩
              case measure => simp [intOf]; omega
            · have hq' : ¬ (0 : Int) < (q : Int) := by omega
              have HG : Hid (Prs.Good k (Prs.restL (xs ++ r).data.toList) h.data.toList (datas l) c t [255]) := by
                have hI := (HXS.out.append HR.out).data
                rw [hI, List.append_assoc, restL_skip _ _ HJ.out]
                have g := encE_good t [255] HE.out
                have e : [22, 22] ++ Blk.body h.data.toList (datas l) c t k ++ [255] = 22 :: 22 :: (Blk.body h.data.toList (datas l) c t k ++ [255]) := by simp
                rw [e, restL_syns n _ (good_begins g).2]
                exact g
              go_wp2_with fail
              refine (read_any (xs ++ r) k _ (by simp; omega) HK.out).mono ?_
              rintro e w4 ⟨A, x, rfl, hA, hat, hb4⟩
              obtain rfl := reads_data hA HG.out
              obtain ⟨hb, v, lb, rfl, e1, e2, hS⟩ := hat
              obtain rfl := str_inj e1
              obtain rfl := datas_inj e2
              obtain ⟨a2, cap2, rfl, htx⟩ := hS.texts
              have hB4 := HB2.out.below hb4 (lt_of_block HB2.out)
              have k0 := hB4.cell0
              have k1 := hB4.cell1
              have k2 := hB4.cell2
              have k3 := hB4.cell3
              have HT4 := hide (HT2.out.below hb4)
              have HX4 := hide htx
              have HW4 := hide (below_step HW2.out hb4)
              have hlt4 := lt_of_block hB4
              clear hb4 hS hA htx hB4
              go_wp2_with fail
              have hb5 : Below w4.heap.size w4 (w4.alloc (.cells #[.int .i64 2, .string hb, .slice a2 lb.length cap2, .bool c, .bool t] 36)) := (Below.refl _ _).alloc (Nat.le_refl _) _
              refine (same_any hb a a2 lb cap cap2 c t _ hn (HT4.out.below hb5) (HX4.out.below hb5)).mono ?_
              rintro e w6 ⟨rfl, hb6⟩
              have HW6 := hide (below_step (below_step HW4.out hb5) hb6)
              clear hb5 hb6
              go_wp2
              go_ret
              exact ⟨rfl, HW6.out⟩
        · have hlt' : ¬ (j : Int) < (s.size : Int) := by omega
          clear hgo
          go_wp2_with fail
          refine (pick_any m 4 _ hm0 hm1 (by omega) (by omega)).mono ?_
          rintro e w3 ⟨rfl, rfl⟩
          have hp := pickI_lt m 4 (by omega)
          have HX0 := hide (is_cut s 0 j)
          have hx0 : (s.extract 0 j).size ≤ s.size := by rw [HX0.out.size]; simp; omega
          simp only [List.drop_zero, Nat.sub_zero] at HX0
          generalize hpv : pickI m 4 = p at *
          generalize s.extract 0 j = x0 at *
          clear hpv
          go_wp2
          go_loop [13, 14] (fun x i => ∃ (q n : Nat) (xs : ByteArray), x = .string xs ∧ i = .int .i64 q ∧ q ≤ 3 ∧ q + n ≤ 3 ∧ Hid (Is xs (s.data.toList.take j ++ List.replicate n 22)) ∧ xs.size ≤ s.size + n) (fun _ i => (intOf i).toNat)
          case atStart => exact ⟨p.toNat, 0, x0, rfl, by congr 1; omega, by omega, by omega, by simpa using HX0, by omega⟩
          case round =>
            obtain ⟨q, n, xs, rfl, rfl, hq, hqn, HXS, hxs⟩ := hrel
            by_cases hq0 : 0 < q
            · have hq' : (0 : Int) < (q : Int) := by omega
              go_wp2
              go_round
              case rel => exact ⟨q - 1, n + 1, _, rfl, by congr 1; omega, by omega, by omega, by rw [Hid, List.replicate_succ', ← List.append_assoc]; exact HXS.out.append (Is.mk [22]), by have e : (⟨#[22]⟩ : ByteArray).size = 1 := rfl; rw [ByteArray.size_append, e]; omega⟩
              case measure => simp [intOf]; omega
            · have hq' : ¬ (0 : Int) < (q : Int) := by omega
              have HG : Hid (Prs.Good k (Prs.restL (xs ++ r).data.toList) h.data.toList (datas l) c t [255]) := by
                have hI := (HXS.out.append HR.out).data
                rw [hI, List.append_assoc, restL_skip _ _ HJ.out]
                have g := encE_good t [255] HE.out
                have e : [22, 22] ++ Blk.body h.data.toList (datas l) c t k ++ [255] = 22 :: 22 :: (Blk.body h.data.toList (datas l) c t k ++ [255]) := by simp
                rw [e, restL_syns n _ (good_begins g).2]
                exact g
              go_wp2_with fail
              refine (read_any (xs ++ r) k _ (by simp; omega) HK.out).mono ?_
              rintro e w4 ⟨A, x, rfl, hA, hat, hb4⟩
              obtain rfl := reads_data hA HG.out
              obtain ⟨hb, v, lb, rfl, e1, e2, hS⟩ := hat
              obtain rfl := str_inj e1
              obtain rfl := datas_inj e2
              obtain ⟨a2, cap2, rfl, htx⟩ := hS.texts
              have hB4 := HB2.out.below hb4 (lt_of_block HB2.out)
              have k0 := hB4.cell0
              have k1 := hB4.cell1
              have k2 := hB4.cell2
              have k3 := hB4.cell3
              have HT4 := hide (HT2.out.below hb4)
              have HX4 := hide htx
              have HW4 := hide (below_step HW2.out hb4)
              have hlt4 := lt_of_block hB4
              clear hb4 hS hA htx hB4
              go_wp2_with fail
              have hb5 : Below w4.heap.size w4 (w4.alloc (.cells #[.int .i64 2, .string hb, .slice a2 lb.length cap2, .bool c, .bool t] 36)) := (Below.refl _ _).alloc (Nat.le_refl _) _
              refine (same_any hb a a2 lb cap cap2 c t _ hn (HT4.out.below hb5) (HX4.out.below hb5)).mono ?_
              rintro e w6 ⟨rfl, hb6⟩
              have HW6 := hide (below_step (below_step HW4.out hb5) hb6)
              clear hb5 hb6
              go_wp2
              go_ret
              exact ⟨rfl, HW6.out⟩
  · have HV : Hid (decide (Blk.encE h.data.toList (datas l) c k = 0) = false) := by simp [Hid, hE]
    have HE := hide hE
    clear hE
    go_enter Try.func9, Try.ntmps9
    go_wp2_with (first | (go_at_call 28; refine (valid_any h a l cap c t k _ hh HL.out (by omega) HT.out).mono ?_; rintro e w1 ⟨rfl, hb1⟩; rw [HV.out]; have hB1 := HBK.out.below hb1 (by simp); have d0 := hB1.cell0; have d1 := hB1.cell1; have d2 := hB1.cell2; have d3 := hB1.cell3) | (go_at_call 29; refine (refusedK_any h a l cap c t k _ hh HL.out (by omega) (HT.out.below hb1) HE.out).mono ?_; rintro e w2 ⟨rfl, hb2⟩))
    go_ret
    exact ⟨rfl, below_step (below_step HB0.out (by assumption)) (by assumption)⟩
end Go.Proofs.Ytlbpjcphhocdkaa
