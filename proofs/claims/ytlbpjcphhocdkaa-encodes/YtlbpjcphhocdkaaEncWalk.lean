/- The law Encodes, walked: the program's Encode and the document's answer the same, and the list of parts and its spare room are as they were. -/
import Derived.Test.YtlbpjcphhocdkaaRefEnc4
import Derived.Test.YtlbpjcphhocdkaaLaw
namespace Go.Proofs.Ytlbpjcphhocdkaa
open Go.RowKit

theorem Roomy.below {w w' : World} {g B : Nat} {l : List ByteArray} (h : Roomy w g l) (hb : Below B w w') (hg : g < B) : Roomy w' g l := (hb.block g hg).trans h
theorem Roomy.lt {w : World} {g : Nat} {l : List ByteArray} (h : Roomy w g l) : g < w.heap.size := lt_of_block h

set_option maxHeartbeats 2000000 in
theorem encodes_walk (h : ByteArray) (a : Option Addr) (l : List ByteArray) (cap : Nat) (c t : Bool) (k : Int) (w : World)
    (hh : h.size ≤ 140737488352000) (hl : ∀ s ∈ l, s.size ≤ 140737488352000) (hn : l.length ≤ 9000000000000) (ht : Texts w a l) :
    Calls Try.prog 5 #[.agg #[.string h, .slice a l.length cap, .bool c, .bool t], .int .i64 k] w fun e w' => e = .returned (.bool true) ∧ Below w.heap.size w w' := by
  have HB0 : Hid (Below w.heap.size w ((w.alloc (.cells #[.string h, .slice a l.length cap, .bool c, .bool t] 30)).alloc (.cells #[.string h, .slice a l.length cap, .bool c, .bool t] 30))) := ((Below.refl _ _).alloc (Nat.le_refl _) _).alloc (by simp) _
  have HT2 := hide (ht.below HB0.out)
  have HB1 := hide (BlkAt.new (w.alloc (.cells #[.string h, .slice a l.length cap, .bool c, .bool t] 30)) (.string h) (.slice a l.length cap) (.bool c) (.bool t))
  have HBA : Hid (BlkAt ((w.alloc (.cells #[.string h, .slice a l.length cap, .bool c, .bool t] 30)).alloc (.cells #[.string h, .slice a l.length cap, .bool c, .bool t] 30)) w.heap.size (.string h) (.slice a l.length cap) (.bool c) (.bool t)) := (Below.heap_alloc _ _ _ (by simp)).trans (heap_alloc_new w _)
  have HL := hide hl
  have HT0 := hide ht
  clear hl ht
  go_enter Try.func5, Try.ntmps5
  go_wp2_with fail
  refine (roomy_any a l cap _ hn HT2.out).mono ?_
  rintro e w1 ⟨rfl, hr1, hb1⟩
  have hA1 := HBA.out.below hb1 (by simp; omega)
  have hC1 : BlkAt w1 (w.heap.size + 1) (.string h) (.slice a l.length cap) (.bool c) (.bool t) := by
    have := HB1.out.below hb1 (by simp)
    simpa using this
  have hw1 : Below w.heap.size w w1 := below_step HB0.out hb1
  have c1 := hC1.cell1
  have q1 : w1.frozen? ⟨w.heap.size + 1, 1, none⟩ = false := Go.Joins.unfrozen_of_block hC1 1
  simp only [World.size_alloc] at hr1
  have c0 := hC1.cell0
  have c2 := hC1.cell2
  have c3 := hC1.cell3
  have hr2 : Roomy (w1.setCell ⟨w.heap.size + 1, 1, none⟩ (.slice (some ⟨w.heap.size + 1 + 1, 0, none⟩) l.length (l.length + 2))) (w.heap.size + 1 + 1) l := (Below.heap_setCell _ _ _ _ (by simp)).trans hr1
  have hw2 : Below w.heap.size w (w1.setCell ⟨w.heap.size + 1, 1, none⟩ (.slice (some ⟨w.heap.size + 1 + 1, 0, none⟩) l.length (l.length + 2))) := hw1.setCell (by simp) _
  have hA2 : BlkAt (w1.setCell ⟨w.heap.size + 1, 1, none⟩ (.slice (some ⟨w.heap.size + 1 + 1, 0, none⟩) l.length (l.length + 2))) w.heap.size (.string h) (.slice a l.length cap) (.bool c) (.bool t) := (Below.heap_setCell _ _ _ _ (by simp)).trans hA1
  have hC2 : BlkAt (w1.setCell ⟨w.heap.size + 1, 1, none⟩ (.slice (some ⟨w.heap.size + 1 + 1, 0, none⟩) l.length (l.length + 2))) (w.heap.size + 1) (.string h) (.slice (some ⟨w.heap.size + 1 + 1, 0, none⟩) l.length (l.length + 2)) (.bool c) (.bool t) := by
    have := Go.Joins.block_setCell (i := 1) hC1 (.slice (some ⟨w.heap.size + 1 + 1, 0, none⟩) l.length (l.length + 2))
    exact this
  have HR2 := hide hr2
  have HW2 := hide hw2
  have HA2 := hide hA2
  have HC2 := hide hC2
  have hz1 : w.heap.size + 1 + 1 < w1.heap.size := hr1.lt
  clear hr2 hw2 hA2 hC2 hr1 hw1 hA1 hC1 hb1
  go_wp2_with fail
  refine (encode_any h _ l (l.length + 2) c t k _ hh HL.out (by omega) HR2.out.texts).mono ?_
  rintro e w3 ⟨rfl, hb3⟩
  have hr3 := HR2.out.below hb3 HR2.out.lt
  have hA3 := HA2.out.below hb3 (lt_of_block HA2.out)
  have hC3 := HC2.out.below hb3 (lt_of_block HC2.out)
  have hw3 := below_step HW2.out hb3
  have d0 := hA3.cell0
  have d1 := hA3.cell1
  have d2 := hA3.cell2
  have d3 := hA3.cell3
  have HR3 := hide hr3
  have HA3 := hide hA3
  have HC3 := hide hC3
  have HW3 := hide hw3
  clear hr3 hA3 hC3 hw3 c0 c1 c2 c3 q1 hb3
  go_wp2_with fail
  refine (refEncode_any h a l cap c t k _ hh HL.out (by omega) (HT0.out.below HW3.out)).mono ?_
  rintro e w4 ⟨rfl, hb4⟩
  have hr4 := HR3.out.below hb4 HR3.out.lt
  have d1 := (HA3.out.below hb4 (lt_of_block HA3.out)).cell1
  have f1 := (HC3.out.below hb4 (lt_of_block HC3.out)).cell1
  have hw4 := below_step HW3.out hb4
  have HR4 := hide hr4
  have HW4 := hide hw4
  clear hr4 hw4 hb4
  go_wp2_with fail
  refine (still_any _ a l cap _ hn HR4.out (HT0.out.below HW4.out)).mono ?_
  rintro e w5 ⟨rfl, n5, rfl⟩
  go_wp2
  go_ret
  exact ⟨rfl, below_drewN HW4.out n5⟩
end Go.Proofs.Ytlbpjcphhocdkaa
