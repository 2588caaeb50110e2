/- The law Reads, walked: every Read, twice; what came out the first time is written full by its owner in between, and stays so. -/
import Derived.Test.YtlbpjcphhocdkaaRRd4
import Derived.Test.YtlbpjcphhocdkaaRdL1
namespace Go.Proofs.Ytlbpjcphhocdkaa
open Go.RowKit

set_option maxHeartbeats 2000000 in
theorem reads_no (s : ByteArray) (kk : Int) (w : World) (hk : ¬ (kk = 0 ∨ kk = 1)) :
    Calls Try.prog 6 #[.string s, .int .i64 kk] w fun e w' => e = .returned (.bool true) ∧ Below w.heap.size w w' := by
  have HK := hide hk
  clear hk
  go_enter Try.func6, Try.ntmps6
  go_wp2_with fail
  refine (refRead_no s kk _ HK.out).mono ?_
  rintro e w1 ⟨rfl, hb1⟩
  unfold zHeard
  have HG1 := hide (HrdAt.new w1 (.int .i64 0) (.string ⟨#[]⟩) (.slice none 0 0) (.bool false) (.bool false))
  have HW1 := hide (hb1.alloc hb1.size (.cells #[.int .i64 0, .string ⟨#[]⟩, .slice none 0 0, .bool false, .bool false] 36))
  clear hb1
  go_wp2_with fail
  generalize hV1 : w1.alloc (.cells #[.int .i64 0, .string ⟨#[]⟩, .slice none 0 0, .bool false, .bool false] 36) = V1 at *
  have hv1 : V1.heap.size = w1.heap.size + 1 := by rw [← hV1]; simp
  clear hV1
  refine (read_no s kk _ HK.out).mono ?_
  rintro e w2 ⟨rfl, hb2⟩
  unfold zHeard
  have hG2 := HG1.out.below hb2 (by omega)
  have HH2 := hide (HrdAt.new w2 (.int .i64 0) (.string ⟨#[]⟩) (.slice none 0 0) (.bool false) (.bool false))
  have hW2 := below_step HW1.out hb2
  have HW2 := hide (hW2.alloc hW2.size (.cells #[.int .i64 0, .string ⟨#[]⟩, .slice none 0 0, .bool false, .bool false] 36))
  have HG2 := hide (hG2.alloc (.cells #[.int .i64 0, .string ⟨#[]⟩, .slice none 0 0, .bool false, .bool false] 36))
  obtain ⟨c0, c1, c2, c3, c4⟩ := hG2.cell
  have hlt2 := lt_of_block hG2
  clear hb2 hG2 hW2
  go_wp2_with fail
  generalize hV2 : w2.alloc (.cells #[.int .i64 0, .string ⟨#[]⟩, .slice none 0 0, .bool false, .bool false] 36) = V2 at *
  have hv2 : V2.heap.size = w2.heap.size + 1 := by rw [← hV2]; simp
  clear hV2 c0 c1 c2 c3 c4
  refine (sameHeard_any 0 ⟨#[]⟩ none none [] 0 0 false false _ (by simp) (Or.inl rfl) (Or.inl rfl)).mono ?_
  rintro e w3 ⟨rfl, hb3⟩
  have hG3 := HG2.out.below hb3 (by omega)
  have hH3 := HH2.out.below hb3 (by omega)
  have HW3 := hide (below_step HW2.out hb3)
  obtain ⟨c0, c1, c2, c3, c4⟩ := hG3.cell
  obtain ⟨d0, d1, d2, d3, d4⟩ := hH3.cell
  have HG3 := hide hG3
  clear hb3 hG3 hH3
  go_wp2_with fail
  refine (written_nil _).mono ?_
  rintro e w4 ⟨rfl, rfl⟩
  go_wp2_with fail
  refine (read_no s kk _ HK.out).mono ?_
  rintro e w5 ⟨rfl, hb5⟩
  unfold zHeard
  have hG5 := HG3.out.below hb5 (lt_of_block HG3.out)
  have hW5 := below_step HW3.out hb5
  have HW5 := hide (hW5.alloc hW5.size (.cells #[.int .i64 0, .string ⟨#[]⟩, .slice none 0 0, .bool false, .bool false] 36))
  obtain ⟨c0, c1, c2, c3, c4⟩ := hG5.cell
  have hlt5 := lt_of_block hG5
  clear hb5 hG5 hW5
  go_wp2_with fail
  refine (sameHeard_any 0 ⟨#[]⟩ none none [] 0 0 false false _ (by simp) (Or.inl rfl) (Or.inl rfl)).mono ?_
  rintro e w6 ⟨rfl, hb6⟩
  have HW6 := hide (below_step HW5.out hb6)
  clear hb6
  go_wp2_with fail
  refine (marked_nil _).mono ?_
  rintro e w7 ⟨rfl, rfl⟩
  go_wp2
  go_ret
  exact ⟨rfl, HW6.out⟩
theorem same_str {a b : ByteArray} (h : a.data.toList = b.data.toList) : a = b := (str_eq a b.data.toList).2 h |>.trans (Is.self b).symm
theorem same_datas : ∀ {a b : List ByteArray}, datas a = datas b → a = b
  | [], [], _ => rfl
  | [], _ :: _, h => by simp [datas] at h
  | _ :: _, [], h => by simp [datas] at h
  | x :: a, y :: b, h => by
    simp only [datas, List.map_cons, List.cons.injEq] at h
    rw [same_str h.1, same_datas (a := a) (b := b) h.2]
theorem Texts.keep {w w' : World} {a : Option Addr} {l : List ByteArray} (h : Texts w a l) (hk : ∀ k, k < w.heap.size → w'.heap[k]? = w.heap[k]?) : Texts w' a l := by
  rcases h with h | ⟨b, o, ha, h⟩
  · exact Or.inl h
  · refine Or.inr ⟨b, o, ha, fun i hi => ?_⟩
    have h1 := h i hi
    have h2 := World.block_lt_of_cell? w _ h1
    rw [← h1]
    simp only [World.cell?, hk b h2]

set_option maxHeartbeats 8000000 in
theorem reads_yes (s : ByteArray) (kk : Int) (w : World) (hs : s.size ≤ 140737488352000) (hk : kk = 0 ∨ kk = 1) :
    Calls Try.prog 6 #[.string s, .int .i64 kk] w fun e w' => e = .returned (.bool true) ∧ Below w.heap.size w w' := by
  have HK := hide hk
  clear hk
  go_enter Try.func6, Try.ntmps6
  go_wp2_with fail
  refine (refRead_any s kk _ hs HK.out).mono ?_
  rintro e w1 ⟨A, x, rfl, hA, hat, hb1⟩
  have HA := hide hA
  clear hA
  cases A with
  | none n =>
    obtain rfl : x = zHeard n := hat
    unfold zHeard
    have HG1 := hide (HrdAt.new w1 (.int .i64 n) (.string ⟨#[]⟩) (.slice none 0 0) (.bool false) (.bool false))
    have HW1 := hide (hb1.alloc hb1.size (.cells #[.int .i64 n, .string ⟨#[]⟩, .slice none 0 0, .bool false, .bool false] 36))
    clear hb1
    go_wp2_with fail
    generalize hV1 : w1.alloc (.cells #[.int .i64 n, .string ⟨#[]⟩, .slice none 0 0, .bool false, .bool false] 36) = V1 at *
    have hv1 : V1.heap.size = w1.heap.size + 1 := by rw [← hV1]; simp
    clear hV1
    refine (read_any s kk _ hs HK.out).mono ?_
    rintro e w2 ⟨A2, x2, rfl, hA2, hat2, hb2⟩
    obtain rfl := HA.out.one hA2
    obtain rfl : x2 = zHeard n := hat2
    clear hA2
    unfold zHeard
    have hG2 := HG1.out.below hb2 (by omega)
    have HH2 := hide (HrdAt.new w2 (.int .i64 n) (.string ⟨#[]⟩) (.slice none 0 0) (.bool false) (.bool false))
    have hW2 := below_step HW1.out hb2
    have HW2 := hide (hW2.alloc hW2.size (.cells #[.int .i64 n, .string ⟨#[]⟩, .slice none 0 0, .bool false, .bool false] 36))
    have HG2 := hide (hG2.alloc (.cells #[.int .i64 n, .string ⟨#[]⟩, .slice none 0 0, .bool false, .bool false] 36))
    obtain ⟨c0, c1, c2, c3, c4⟩ := hG2.cell
    have hlt2 := lt_of_block hG2
    clear hb2 hG2 hW2
    go_wp2_with fail
    generalize hV2 : w2.alloc (.cells #[.int .i64 n, .string ⟨#[]⟩, .slice none 0 0, .bool false, .bool false] 36) = V2 at *
    have hv2 : V2.heap.size = w2.heap.size + 1 := by rw [← hV2]; simp
    clear hV2 c0 c1 c2 c3 c4
    refine (sameHeard_any n ⟨#[]⟩ none none [] 0 0 false false _ (by simp) (Or.inl rfl) (Or.inl rfl)).mono ?_
    rintro e w3 ⟨rfl, hb3⟩
    have hG3 := HG2.out.below hb3 (by omega)
    have hH3 := HH2.out.below hb3 (by omega)
    have HW3 := hide (below_step HW2.out hb3)
    obtain ⟨c0, c1, c2, c3, c4⟩ := hG3.cell
    obtain ⟨d0, d1, d2, d3, d4⟩ := hH3.cell
    have HG3 := hide hG3
    clear hb3 hG3 hH3
    go_wp2_with fail
    refine (written_nil _).mono ?_
    rintro e w4 ⟨rfl, rfl⟩
    go_wp2_with fail
    refine (read_any s kk _ hs HK.out).mono ?_
    rintro e w5 ⟨A2, x2, rfl, hA2, hat2, hb5⟩
    obtain rfl := HA.out.one hA2
    obtain rfl : x2 = zHeard n := hat2
    clear hA2
    unfold zHeard
    have hG5 := HG3.out.below hb5 (lt_of_block HG3.out)
    have hW5 := below_step HW3.out hb5
    have HW5 := hide (hW5.alloc hW5.size (.cells #[.int .i64 n, .string ⟨#[]⟩, .slice none 0 0, .bool false, .bool false] 36))
    obtain ⟨c0, c1, c2, c3, c4⟩ := hG5.cell
    have hlt5 := lt_of_block hG5
    clear hb5 hG5 hW5
    go_wp2_with fail
    refine (sameHeard_any n ⟨#[]⟩ none none [] 0 0 false false _ (by simp) (Or.inl rfl) (Or.inl rfl)).mono ?_
    rintro e w6 ⟨rfl, hb6⟩
    have HW6 := hide (below_step HW5.out hb6)
    clear hb6
    go_wp2_with fail
    refine (marked_nil _).mono ?_
    rintro e w7 ⟨rfl, rfl⟩
    go_wp2
    go_ret
    exact ⟨rfl, HW6.out⟩
  | data h0 ps0 c t =>
    obtain ⟨hb, v, lb, rfl, rfl, rfl, hS⟩ := hat
    have hlb : 1 ≤ lb.length := by
      have := (Blk.berr_ok HA.out.2.ok).2.1
      rwa [datas_length] at this
    have hlb4 : lb.length ≤ 4 := by
      have := (Blk.berr_ok HA.out.2.ok).2.2.1
      rwa [datas_length] at this
    obtain ⟨a, cap, rfl, htx⟩ := hS.texts
    have HTX := hide htx
    have HG1 := hide (HrdAt.new w1 (.int .i64 2) (.string hb) (.slice a lb.length cap) (.bool c) (.bool t))
    have HW1 := hide (hb1.alloc hb1.size (.cells #[.int .i64 2, .string hb, .slice a lb.length cap, .bool c, .bool t] 36))
    have hbw1 := hb1.size
    have HV0 : Hid (∀ g, g < w1.heap.size → (w1.alloc (.cells #[.int .i64 2, .string hb, .slice a lb.length cap, .bool c, .bool t] 36)).heap[g]? = w1.heap[g]?) := fun g hg => Below.heap_alloc _ _ _ hg
    clear hb1 hS htx
    go_wp2_with fail
    generalize hV1 : w1.alloc (.cells #[.int .i64 2, .string hb, .slice a lb.length cap, .bool c, .bool t] 36) = V1 at *
    have hv1 : V1.heap.size = w1.heap.size + 1 := by rw [← hV1]; simp
    clear hV1
    refine (read_any s kk _ hs HK.out).mono ?_
    rintro e w2 ⟨A2, x2, rfl, hA2, hat2, hb2⟩
    obtain rfl := HA.out.one hA2
    obtain ⟨hb', v', lb', rfl, e1, e2, hS2⟩ := hat2
    obtain rfl := same_str e1
    obtain rfl := same_datas e2
    clear e1 e2 hA2
    obtain ⟨_, hnil⟩ | ⟨g, cap', rfl, hgB, hcl, hcm, hM2⟩ := hS2.row
    · rw [hnil] at hlb; simp at hlb
    have htx2 : Texts w2 (some ⟨g, 0, none⟩) lb' := by
      obtain ⟨a3, c3, e3, h3⟩ := hS2.texts
      simp only [Value.slice.injEq, true_and] at e3
      rw [e3.1]; exact h3
    have hG2 := HG1.out.below hb2 (by omega)
    have HH2 := hide (HrdAt.new w2 (.int .i64 2) (.string hb') (.slice (some ⟨g, 0, none⟩) lb'.length cap') (.bool c) (.bool t))
    have hW2 := below_step HW1.out hb2
    have HW2 := hide (hW2.alloc hW2.size (.cells #[.int .i64 2, .string hb', .slice (some ⟨g, 0, none⟩) lb'.length cap', .bool c, .bool t] 36))
    have HG2 := hide (hG2.alloc (.cells #[.int .i64 2, .string hb', .slice (some ⟨g, 0, none⟩) lb'.length cap', .bool c, .bool t] 36))
    have hbv2 : Below w2.heap.size w2 (w2.alloc (.cells #[.int .i64 2, .string hb', .slice (some ⟨g, 0, none⟩) lb'.length cap', .bool c, .bool t] 36)) := (Below.refl _ _).alloc (Nat.le_refl _) _
    have hg2 := hM2.lt
    have HM2 := hide (hM2.keep (hbv2.block g hg2))
    have HTX2 := hide (htx2.below hbv2)
    have HV2 : Hid (∀ g, g < w1.heap.size → (w2.alloc (.cells #[.int .i64 2, .string hb', .slice (some ⟨g, 0, none⟩) lb'.length cap', .bool c, .bool t] 36)).heap[g]? = w1.heap[g]?) → True := fun _ => trivial
    clear HV2
    have HK2 : Hid (∀ k, k < w1.heap.size → w2.heap[k]? = w1.heap[k]?) := fun k hk => (hb2.block k (by omega)).trans (HV0.out k hk)
    have hz2 := hb2.size
    obtain ⟨c0, c1, c2, c3, c4⟩ := hG2.cell
    have hlt2 := lt_of_block hG2
    clear hb2 hG2 hW2 hS2 hM2 htx2
    go_wp2_with fail
    have HK3 : Hid (∀ k, k < w1.heap.size → (w2.alloc (.cells #[.int .i64 2, .string hb', .slice (some ⟨g, 0, none⟩) lb'.length cap', .bool c, .bool t] 36)).heap[k]? = w1.heap[k]?) := fun k hk => (Below.heap_alloc _ _ _ (by omega)).trans (HK2.out k hk)
    generalize hV2 : w2.alloc (.cells #[.int .i64 2, .string hb', .slice (some ⟨g, 0, none⟩) lb'.length cap', .bool c, .bool t] 36) = V2 at *
    have hv2 : V2.heap.size = w2.heap.size + 1 := by rw [← hV2]; simp
    clear hV2 c0 c1 c2 c3 c4 hbv2
    refine (sameHeard_any 2 hb' (some ⟨g, 0, none⟩) a lb' cap' cap c t _ (by omega) HTX2.out (HTX.out.keep HK3.out)).mono ?_
    rintro e w3 ⟨rfl, hb3⟩
    have hG3 := HG2.out.below hb3 (by omega)
    have hH3 := HH2.out.below hb3 (by omega)
    have HW3 := hide (below_step HW2.out hb3)
    have HM3 := hide (HM2.out.keep (hb3.block g (by omega)))
    have HK4 : Hid (∀ k, k < w1.heap.size → w3.heap[k]? = w1.heap[k]?) := fun k hk => (hb3.block k (by omega)).trans (HK3.out k hk)
    obtain ⟨d0, d1, d2, d3, d4⟩ := hH3.cell
    have HG3 := hide hG3
    have hz3 := hb3.size
    clear hb3 hG3 hH3
    go_wp2_with fail
    refine (written_row g lb'.length cap' _ hcl hcm HM3.out).mono ?_
    rintro e w4 ⟨rfl, hM4, hz4, ho4, t1, t2, t3⟩
    have HK5 : Hid (∀ k, k < w1.heap.size → w4.heap[k]? = w1.heap[k]?) := fun k hk => (ho4 k (by omega)).trans (HK4.out k hk)
    have HG4 : Hid (HrdAt w4 w1.heap.size (.int .i64 2) (.string hb') (.slice a lb'.length cap) (.bool c) (.bool t)) := (ho4 w1.heap.size (by omega)).trans HG3.out
    have hgw : w.heap.size ≤ g := by omega
    have HW4 : Hid (Below w.heap.size w w4) := ⟨t1.trans HW3.out.os, t2.trans HW3.out.tape, t3.trans HW3.out.output, by have := HW3.out.size; omega, fun k hk => (ho4 k (by omega)).trans (HW3.out.block k hk)⟩
    have HM4 := hide hM4
    clear hM4 ho4 t1 t2 t3
    go_wp2_with fail
    refine (read_any s kk _ hs HK.out).mono ?_
    rintro e w5 ⟨A2, x2, rfl, hA2, hat2, hb5⟩
    obtain rfl := HA.out.one hA2
    obtain ⟨hb2, v2, lb2, rfl, e1, e2, hS5⟩ := hat2
    obtain rfl := same_str e1
    obtain rfl := same_datas e2
    clear e1 e2 hA2
    obtain ⟨a5, cap5, rfl, htx5⟩ := hS5.texts
    have hG5 := HG4.out.below hb5 (lt_of_block HG4.out)
    have hM5 := HM4.out.keep (hb5.block g (by omega))
    have hW5 := below_step HW4.out hb5
    have HW5 := hide (hW5.alloc hW5.size (.cells #[.int .i64 2, .string hb2, .slice a5 lb2.length cap5, .bool c, .bool t] 36))
    have hbv5 : Below w5.heap.size w5 (w5.alloc (.cells #[.int .i64 2, .string hb2, .slice a5 lb2.length cap5, .bool c, .bool t] 36)) := (Below.refl _ _).alloc (Nat.le_refl _) _
    have hz5 := hb5.size
    have HM5 := hide (hM5.keep (hbv5.block g (by omega)))
    have HT5 := hide (htx5.below hbv5)
    have HK6 : Hid (∀ k, k < w1.heap.size → (w5.alloc (.cells #[.int .i64 2, .string hb2, .slice a5 lb2.length cap5, .bool c, .bool t] 36)).heap[k]? = w1.heap[k]?) := fun k hk => (hbv5.block k (by omega)).trans ((hb5.block k (by omega)).trans (HK5.out k hk))
    obtain ⟨c0, c1, c2, c3, c4⟩ := hG5.cell
    have hlt5 := lt_of_block hG5
    clear hb5 hG5 hW5 hM5 htx5 hS5
    go_wp2_with fail
    generalize hV5 : w5.alloc (.cells #[.int .i64 2, .string hb2, .slice a5 lb2.length cap5, .bool c, .bool t] 36) = V5 at *
    have hv5 : V5.heap.size = w5.heap.size + 1 := by rw [← hV5]; simp
    clear hV5 hbv5
    refine (sameHeard_any 2 hb2 a5 a lb2 cap5 cap c t _ (by omega) HT5.out (HTX.out.keep HK6.out)).mono ?_
    rintro e w6 ⟨rfl, hb6⟩
    have HW6 := hide (below_step HW5.out hb6)
    have HM6 := hide (HM5.out.keep (hb6.block g (by omega)))
    clear hb6
    go_wp2_with fail
    refine (marked_row g cap' _ hcm HM6.out).mono ?_
    rintro e w7 ⟨rfl, n7, rfl⟩
    go_wp2
    go_ret
    exact ⟨rfl, below_drewN HW6.out n7⟩

theorem reads_walk (s : ByteArray) (kk : Int) (w : World) (hs : s.size ≤ 140737488352000) :
    Calls Try.prog 6 #[.string s, .int .i64 kk] w fun e w' => e = .returned (.bool true) ∧ Below w.heap.size w w' := by
  by_cases hk : kk = 0 ∨ kk = 1
  · exact reads_yes s kk w hs hk
  · exact reads_no s kk w hk
end Go.Proofs.Ytlbpjcphhocdkaa
