/- The law Opens, walked. -/
import Derived.Test.YtlbpjcphhocdkaaOp4
namespace Go.Proofs.Ytlbpjcphhocdkaa
set_option maxRecDepth 1000000
open Go.RowKit Go.Proofs.Ytlbpjcphhocdkaa.Mod Go.Proofs.Ytlbpjcphhocdkaa.Pst

set_option maxHeartbeats 2000000 in
theorem known_cfg (c0 c1 c2 c3 c4 c5 c6 c7 c8 c9 : Int) (w : World) :
    Calls Try.prog 26 #[.agg #[.int .i64 c0, .int .i64 c1, .int .i64 c2, .int .i64 c3, .int .i64 c4, .int .i64 c5, .int .i64 c6, .int .i64 c7, .int .i64 c8, .int .i64 c9]] w fun e w' => e = .returned (.bool true) ∧ Below w.heap.size w w' := by
  have X0 : CfgIAt (w.alloc (.cells #[.int .i64 c0, .int .i64 c1, .int .i64 c2, .int .i64 c3, .int .i64 c4, .int .i64 c5, .int .i64 c6, .int .i64 c7, .int .i64 c8, .int .i64 c9] 42)) w.heap.size c0 c1 c2 c3 c4 c5 c6 c7 c8 c9 := CfgI.at rfl _ _ _ _ _ _ _ _ _ _
  have hb0 := (Below.refl w.heap.size w).alloc (Nat.le_refl _) (.cells #[.int .i64 c0, .int .i64 c1, .int .i64 c2, .int .i64 c3, .int .i64 c4, .int .i64 c5, .int .i64 c6, .int .i64 c7, .int .i64 c8, .int .i64 c9] 42)
  have HB0 := hide hb0
  have HX0 := hide X0
  clear X0 hb0
  go_enter Try.func26, Try.ntmps26
  go_wp2_with fail
  have hs0 : (w.alloc (.cells #[.int .i64 c0, .int .i64 c1, .int .i64 c2, .int .i64 c3, .int .i64 c4, .int .i64 c5, .int .i64 c6, .int .i64 c7, .int .i64 c8, .int .i64 c9] 42)).heap.size = w.heap.size + 1 := by simp
  generalize w.alloc (.cells #[.int .i64 c0, .int .i64 c1, .int .i64 c2, .int .i64 c3, .int .i64 c4, .int .i64 c5, .int .i64 c6, .int .i64 c7, .int .i64 c8, .int .i64 c9] 42) = W0 at *
  have hw := heap_alloc_new W0 (.cells #[.slice none 0 0, .slice none 0 0] 69)
  have HB1 := hide (Below.allocN HB0.out (.cells #[.slice none 0 0, .slice none 0 0] 69))
  rw [hs0] at hw
  generalize W0.alloc (.cells #[.slice none 0 0, .slice none 0 0] 69) = W1 at *
  refine (opened_new (w.heap.size + 1) c0 c1 c2 c3 c4 c5 c6 c7 c8 c9 _ hw).mono ?_
  rintro e w2 ⟨rfl, ho, hf⟩
  have hbel : Below w.heap.size w w2 := ⟨hf.os.trans HB1.out.os, hf.tape.trans HB1.out.tape, hf.output.trans HB1.out.output, Nat.le_trans HB1.out.size hf.size, fun k hk => (hf.block k (by have := HB1.out.size; omega) (by omega)).trans (HB1.out.block k hk)⟩
  have HB2 := hide hbel
  clear hw hs0 hbel hf
  rcases ho with ⟨_, d0⟩ | ⟨lb, cap, pb, xb, yb, c, F, G, d0, l0, hp, hl, hr⟩
  · go_wp2
    go_ret
    exact ⟨rfl, HB2.out⟩
  · have HP := hide hp
    have HL := hide hl
    have HR := hide hr
    clear hp hl hr
    go_wp2_with fail
    refine (looks_new pb xb yb c F G _ HP.out HL.out HR.out).mono ?_
    rintro e w3 ⟨rfl, hb3⟩
    have HB3 := hide (below_step HB2.out hb3)
    clear hb3
    go_wp2
    go_ret
    exact ⟨rfl, HB3.out⟩

set_option maxHeartbeats 2000000 in
theorem some_any (w : World) :
    Calls Try.prog 25 #[] w fun e w' => e = .returned (.agg #[.int .i64 0, .int .i64 2, .int .i64 1, .int .i64 2, .int .i64 3, .int .i64 4, .int .i64 3, .int .i64 11, .int .i64 1, .int .i64 1]) ∧ Below w.heap.size w w' := by
  go_enter Try.func25, Try.ntmps25
  go_wp2
  (try simp only [Exit.inBlock, Exit.then])
  go_returns
  exact ⟨rfl, (Below.refl _ _).alloc (Nat.le_refl _) _⟩

set_option maxHeartbeats 2000000 in
theorem opens_walk (c0 c1 c2 c3 c4 c5 c6 c7 c8 c9 : Int) (w : World) :
    Calls Try.prog 7 #[.agg #[.int .i64 c0, .int .i64 c1, .int .i64 c2, .int .i64 c3, .int .i64 c4, .int .i64 c5, .int .i64 c6, .int .i64 c7, .int .i64 c8, .int .i64 c9]] w fun e w' => e = .returned (.bool true) ∧ Below w.heap.size w w' := by
  have X0 : CfgIAt (w.alloc (.cells #[.int .i64 c0, .int .i64 c1, .int .i64 c2, .int .i64 c3, .int .i64 c4, .int .i64 c5, .int .i64 c6, .int .i64 c7, .int .i64 c8, .int .i64 c9] 42)) w.heap.size c0 c1 c2 c3 c4 c5 c6 c7 c8 c9 := CfgI.at rfl _ _ _ _ _ _ _ _ _ _
  have hb0 := (Below.refl w.heap.size w).alloc (Nat.le_refl _) (.cells #[.int .i64 c0, .int .i64 c1, .int .i64 c2, .int .i64 c3, .int .i64 c4, .int .i64 c5, .int .i64 c6, .int .i64 c7, .int .i64 c8, .int .i64 c9] 42)
  have HB0 := hide hb0
  have HX0 := hide X0
  clear X0 hb0
  go_enter Try.func7, Try.ntmps7
  go_wp2_with fail
  generalize w.alloc (.cells #[.int .i64 c0, .int .i64 c1, .int .i64 c2, .int .i64 c3, .int .i64 c4, .int .i64 c5, .int .i64 c6, .int .i64 c7, .int .i64 c8, .int .i64 c9] 42) = W0 at *
  refine (some_any _).mono ?_
  rintro e w1 ⟨rfl, hb1⟩
  have HB1 := hide (below_step HB0.out hb1)
  have HX1 := hide (HX0.out.below hb1)
  clear hb1
  go_wp2_with fail
  refine (known_cfg _ _ _ _ _ _ _ _ _ _ _).mono ?_
  rintro e w2 ⟨rfl, hb2⟩
  have HB2 := hide (below_step (Below.allocN HB1.out _) hb2)
  have HX2 := hide ((HX1.out.below (Below.allocN (Below.refl _ _) _)).below hb2)
  obtain ⟨k0, k1, k2, k3, k4, k5, k6, k7, k8, k9⟩ := HX2.out.all
  clear hb2
  go_wp2_with fail
  refine (known_cfg _ _ _ _ _ _ _ _ _ _ _).mono ?_
  rintro e w3 ⟨rfl, hb3⟩
  have HB3 := hide (below_step HB2.out hb3)
  clear hb3 k0 k1 k2 k3 k4 k5 k6 k7 k8 k9
  go_wp2
  go_ret
  exact ⟨rfl, HB3.out⟩

end Go.Proofs.Ytlbpjcphhocdkaa
