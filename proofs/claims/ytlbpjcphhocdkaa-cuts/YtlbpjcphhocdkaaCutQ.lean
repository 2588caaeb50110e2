/- The law Cuts, walked: the whole. -/
import Derived.Test.YtlbpjcphhocdkaaCutW
namespace Go.Proofs.Ytlbpjcphhocdkaa
open Go.RowKit

theorem AnsAt.none_eq {w : World} {B : Nat} {x : Value} {n : Nat} (h : AnsAt w B x (.none n)) : x = zHeard n := h

set_option maxHeartbeats 8000000 in
theorem cuts_walk (h : ByteArray) (a : Option Addr) (l : List ByteArray) (cap : Nat) (c t : Bool) (k : Int) (n kd : Int) (tl : ByteArray) (w : World)
    (hh : h.size ≤ 140737488352000) (hl : ∀ s ∈ l, s.size ≤ 140737488352000) (hn : l.length ≤ 9000000000000) (ht : Texts w a l) (ha0 : -9223372036854775808 ≤ n) (ha1 : n ≤ 9223372036854775807) (hm0 : -9223372036854775808 ≤ kd) (hm1 : kd ≤ 9223372036854775807) (htl : tl.size ≤ 140737488351232) :
    Calls Try.prog 11 #[.agg #[.string h, .slice a l.length cap, .bool c, .bool t], .int .i64 k, .int .i64 n, .int .i64 kd, .string tl] w fun e w' => e = .returned (.bool true) ∧ Below w.heap.size w w' := by
  have HB0 : Hid (Below w.heap.size w (w.alloc (.cells #[.string h, .slice a l.length cap, .bool c, .bool t] 30))) := (Below.refl _ _).alloc (Nat.le_refl _) _
  have HBK := hide (BlkAt.new w (.string h) (.slice a l.length cap) (.bool c) (.bool t))
  have HT := hide (ht.below HB0.out)
  have HL := hide hl
  clear hl ht
  by_cases hE : Blk.encE h.data.toList (datas l) c k = 0
  · have HV : Hid (decide (Blk.encE h.data.toList (datas l) c k = 0) = true) := by simp [Hid, hE]
    have HE := hide hE
    have hk : k = 0 ∨ k = 1 := (encE_good t [255] hE).kc
    have HK := hide hk
    have hpk := pickI_lt kd 7 (by omega)
    obtain ⟨K, hKe⟩ : ∃ K : Nat, 3 + pickI kd 7 = (K : Int) := ⟨(3 + pickI kd 7).toNat, by omega⟩
    have hK1 : 3 ≤ K := by omega
    have hK2 : K ≤ 9 := by omega
    have HKE := hide hKe
    have hpe : pickI kd 7 = (K : Int) - 3 := by omega
    have HPE := hide hpe
    clear hE hk hKe hpe hpk
    go_enter Try.func11, Try.ntmps11
    go_wp2_with (first | (go_at_call 28; refine (valid_any h a l cap c t k _ hh HL.out (by omega) HT.out).mono ?_; rintro e w1 ⟨rfl, hb1⟩; rw [HV.out]; have hB1 := HBK.out.below hb1 (by simp); have d0 := hB1.cell0; have d1 := hB1.cell1; have d2 := hB1.cell2; have d3 := hB1.cell3) | (go_at_call 30; refine (coded_any h a l cap c t k _ hh HL.out (by omega) (HT.out.below hb1) HE.out).mono ?_; rintro e w2 ⟨r, rfl, HR, hr1, hr2, hb2⟩))
    have HW2 := hide (below_step (below_step HB0.out hb1) hb2)
    have hrz : r.size = (Blk.body h.data.toList (datas l) c t k).length + 3 := by
      rw [HR.out.size]; simp only [List.length_append, List.length_cons, List.length_nil]; omega
    have HRZ := hide hrz
    clear d0 d1 d2 d3 hB1 hb1 hb2 HBK HB0 HT hrz
    refine (pick_any kd 7 _ hm0 hm1 (by omega) (by omega)).mono ?_
    rintro e w3 ⟨rfl, rfl⟩
    rw [HPE.out]
    have HPK : Hid (∀ w, Calls Try.prog 27 #[.int .i64 kd, .int .i64 7] w fun e w' => e = .returned (.int .i64 ((K : Int) - 3)) ∧ w' = w) := by
      intro w
      have := pick_any kd 7 w hm0 hm1 (by omega) (by omega)
      rw [HPE.out] at this
      exact this
    have HK3 : Hid ((3 : Int) + ((K : Int) - 3) = (K : Int)) := by unfold Hid; omega
    have hK3 : ((K : Int) != 3 + ((K : Int) - 3)) = false := by simp; omega
    have hK7 : 0 ≤ (K : Int) - 3 ∧ (K : Int) - 3 ≤ 6 := by omega
    go_wp2_with fail
    rw [HK3.out]
    refine (short_is K _ hK1 hK2).mono ?_
    rintro e w4 ⟨x, rfl, HX, hx, hb4⟩
    have hsf := (sbody_facts K hK1 hK2).2.2
    have HW4 := hide (below_step HW2.out hb4)
    have hx4 : ¬ (x.size : Int) < 4 := by omega
    have hx5 : x.size ≤ 5 ∧ 4 ≤ x.size := by omega
    have HXZ := hide hx
    clear hb4 hsf hx
    go_wp2_with fail
    refine (read_any x k _ (by omega) HK.out).mono ?_
    rintro e w5 ⟨A, y, rfl, hA, hat, hb5⟩
    obtain rfl := short_reads hK1 hK2 HX.out.data hA
    obtain rfl := hat.none_eq
    have HW5 := hide (below_step HW4.out hb5)
    clear hb5 hA
    unfold zHeard
    go_wp2
    go_quiet ((go_at_call 27; exact Calls.quiet_of_same (HPK.out _)))
    have hb6 : Below w5.heap.size w5 ((w5.alloc (.cells #[.int .i64 K, .string ⟨#[]⟩, .slice none 0 0, .bool false, .bool false] 36)).drewN nq) := below_drewN ((Below.refl _ _).alloc (Nat.le_refl _) _) nq
    have HW6 := hide (below_step HW5.out hb6)
    clear hb6
    generalize (w5.alloc (.cells #[.int .i64 K, .string ⟨#[]⟩, .slice none 0 0, .bool false, .bool false] 36)).drewN nq = W6 at *
    go_wp2_with fail
    refine (pick_any n (r.size : Int) _ ha0 ha1 (by omega) (by omega)).mono ?_
    rintro e w7 ⟨rfl, rfl⟩
    have hq := pickI_lt n (r.size : Int) (by omega)
    generalize pickI n (r.size : Int) = q1 at *
    obtain ⟨m1, rfl⟩ : ∃ m : Nat, q1 = (m : Int) := ⟨q1.toNat, by omega⟩
    have hm1r : m1 < r.size := by omega
    have HM1 := hide (is_take HR.out m1)
    have hz1 : (r.extract 0 m1).size ≤ 400 := by simp; omega
    clear hq
    go_wp2_with fail
    generalize r.extract 0 m1 = r1 at *
    refine (read_any r1 k _ (by omega) HK.out).mono ?_
    rintro e w8 ⟨A, y, rfl, hA, hat, hb8⟩
    obtain ⟨n1, rfl, hn1⟩ := block_cut HE.out HM1.out.data (by rw [← HRZ.out]; exact hm1r) hA
    obtain rfl := hat.none_eq
    have HW8 := hide (below_step HW6.out hb8)
    clear hb8 hA
    unfold zHeard
    go_wp2_with fail
    refine (pick_any n (x.size : Int) _ ha0 ha1 (by omega) (by omega)).mono ?_
    rintro e w9 ⟨rfl, rfl⟩
    have hq := pickI_lt n (x.size : Int) (by omega)
    generalize pickI n (x.size : Int) = q2 at *
    obtain ⟨m2, rfl⟩ : ∃ m : Nat, q2 = (m : Int) := ⟨q2.toNat, by omega⟩
    have hm2x : m2 < x.size := by omega
    have HM2 := hide (is_take HX.out m2)
    have hz2 : (x.extract 0 m2).size ≤ 400 := by simp; omega
    clear hq
    have HG1 := hide (HrdAt.new w8 (.int .i64 n1) (.string ⟨#[]⟩) (.slice none 0 0) (.bool false) (.bool false))
    have HW9 := hide (HW8.out.alloc HW8.out.size (.cells #[.int .i64 n1, .string ⟨#[]⟩, .slice none 0 0, .bool false, .bool false] 36))
    go_wp2_with fail
    generalize x.extract 0 m2 = x2 at *
    generalize hW9 : w8.alloc (.cells #[.int .i64 n1, .string ⟨#[]⟩, .slice none 0 0, .bool false, .bool false] 36) = W9 at *
    have hlt9 : w8.heap.size < W9.heap.size := lt_of_block HG1.out
    clear hW9
    refine (read_any x2 k _ (by omega) HK.out).mono ?_
    rintro e w10 ⟨A, y, rfl, hA, hat, hb10⟩
    obtain rfl := short_cut hK1 hK2 HM2.out.data (by rw [← HXZ.out]; exact hm2x) hA
    obtain rfl := hat.none_eq
    have hG1 := HG1.out.below hb10 hlt9
    have HW10 := hide (below_step HW9.out hb10)
    clear hb10 hA
    unfold zHeard
    have hG2 := hG1.alloc (.cells #[.int .i64 0, .string ⟨#[]⟩, .slice none 0 0, .bool false, .bool false] 36)
    have hH2 := HrdAt.new w10 (.int .i64 0) (.string ⟨#[]⟩) (.slice none 0 0) (.bool false) (.bool false)
    have HW11 := hide (HW10.out.alloc HW10.out.size (.cells #[.int .i64 0, .string ⟨#[]⟩, .slice none 0 0, .bool false, .bool false] 36))
    have HGG := hide hG2
    have HHH := hide hH2
    obtain ⟨c0, c1, c2, c3, c4⟩ := hG1.cell
    have hlt10 := lt_of_block hG1
    clear hG1 hG2 hH2
    go_wp2_with fail
    generalize hW11 : w10.alloc (.cells #[.int .i64 0, .string ⟨#[]⟩, .slice none 0 0, .bool false, .bool false] 36) = W11 at *
    have hz11 : W11.heap.size = w10.heap.size + 1 := by rw [← hW11]; simp
    clear hW11
    refine (empty_any n1 _ hn1).mono ?_
    rintro e w12 ⟨rfl, hb12⟩
    have hG12 := HGG.out.below hb12 (by omega)
    have hH12 := HHH.out.below hb12 (by omega)
    have HW12 := hide (below_step HW11.out hb12)
    have hz12 := hb12.size
    obtain ⟨b0, b1, b2, b3, b4⟩ := hH12.cell
    have HG12 := hide hG12
    have HH12 := hide hH12
    clear hG12 hH12 hb12 c0 c1 c2 c3 c4
    go_wp2_with fail
    refine (empty_any 0 _ (Or.inl rfl)).mono ?_
    rintro e w13 ⟨rfl, hb13⟩
    have hG13 := HG12.out.below hb13 (by omega)
    have hH13 := HH12.out.below hb13 (by omega)
    have HW13 := hide (below_step HW12.out hb13)
    have hz13 := hb13.size
    obtain ⟨b0, _, _, _, _⟩ := hH13.cell
    have HG13 := hide hG13
    clear hG13 hH13 hb13
    by_cases hte : tl.data.toList = []
    · have hE : tl.toList.isEmpty = true := by rw [ByteArray.toList_eq]; simp [hte]
      clear hte
      go_wp2
      go_ret
      exact ⟨rfl, HW13.out⟩
    · have hE : tl.toList.isEmpty = false := by rw [ByteArray.toList_eq]; simpa using hte
      have HTE := hide hte
      clear hte
      go_wp2_with fail
      refine (read_any (r ++ tl) k _ (by simp; omega) HK.out).mono ?_
      rintro e w14 ⟨A, y, rfl, hA, hat, hb14⟩
      obtain rfl := block_tail HE.out ((HR.out.append (Is.self tl)).data) HTE.out hA
      obtain rfl := hat.none_eq
      have hG14 := HG13.out.below hb14 (by omega)
      have HW14 := hide (below_step HW13.out hb14)
      obtain ⟨c0, c1, c2, c3, c4⟩ := hG14.cell
      have y0 := hG14.free 0
      have y1 := hG14.free 1
      have y2 := hG14.free 2
      have y3 := hG14.free 3
      have y4 := hG14.free 4
      have HG14 := hide hG14
      have hw8 : w.heap.size ≤ w8.heap.size := HW8.out.size
      clear hG14 hb14 hA
      unfold zHeard
      have hN := HrdAt.all (n' := .int .i64 1) (h' := .string ⟨#[]⟩) (v' := .slice none 0 0) (c' := .bool false) (t' := .bool false) HG14.out
      obtain ⟨f0, f1, f2, f3, f4⟩ := hN.cell
      have HN := hide hN
      have HW15 := hide (below_five HW14.out hw8 (.int .i64 1) (.string ⟨#[]⟩) (.slice none 0 0) (.bool false) (.bool false))
      clear hN
      go_wp2_with fail
      generalize hW15 : ((((w14.setCell ⟨w8.heap.size, 0, none⟩ (.int .i64 1)).setCell ⟨w8.heap.size, 1, none⟩ (.string ⟨#[]⟩)).setCell ⟨w8.heap.size, 2, none⟩ (.slice none 0 0)).setCell ⟨w8.heap.size, 3, none⟩ (.bool false)).setCell ⟨w8.heap.size, 4, none⟩ (.bool false) = W15 at *
      clear hW15
      refine (empty_any 1 _ (Or.inr rfl)).mono ?_
      rintro e w16 ⟨rfl, hb16⟩
      have hG16 := HN.out.below hb16 (lt_of_block HN.out)
      obtain ⟨g0, _, _, _, _⟩ := hG16.cell
      have HW16 := hide (below_step HW15.out hb16)
      clear hG16 hb16
      go_wp2
      go_ret
      exact ⟨rfl, HW16.out⟩
  · have HV : Hid (decide (Blk.encE h.data.toList (datas l) c k = 0) = false) := by simp [Hid, hE]
    have HE := hide hE
    clear hE
    go_enter Try.func11, Try.ntmps11
    go_wp2_with (first | (go_at_call 28; refine (valid_any h a l cap c t k _ hh HL.out (by omega) HT.out).mono ?_; rintro e w1 ⟨rfl, hb1⟩; rw [HV.out]; have hB1 := HBK.out.below hb1 (by simp); have d0 := hB1.cell0; have d1 := hB1.cell1; have d2 := hB1.cell2; have d3 := hB1.cell3) | (go_at_call 29; refine (refusedK_any h a l cap c t k _ hh HL.out (by omega) (HT.out.below hb1) HE.out).mono ?_; rintro e w2 ⟨rfl, hb2⟩))
    go_ret
    exact ⟨rfl, below_step (below_step HB0.out (by assumption)) (by assumption)⟩
end Go.Proofs.Ytlbpjcphhocdkaa
