/- Which configurations are one. -/
import Derived.Test.YtlbpjcphhocdkaaLn0
namespace Go.Proofs.Ytlbpjcphhocdkaa
open Go.RowKit Go.Proofs.Ytlbpjcphhocdkaa.Mod Go.Proofs.Ytlbpjcphhocdkaa.Pst

theorem isWithin_any (n lo hi : Int) (w : World) :
    Calls Try.prog 93 #[.int .i64 n, .int .i64 lo, .int .i64 hi] w fun e w' => e = .returned (.bool (decide (lo ≤ n ∧ n ≤ hi))) ∧ w' = w := by
  by_cases h1 : lo ≤ n
  · by_cases h2 : n ≤ hi
    · have HR : Hid (decide (lo ≤ n ∧ n ≤ hi) = true) := by simp [Hid, h1, h2]
      rw [HR.out]
      go_enter Try.func93, Try.ntmps93
      go_wp2
      go_ret
      exact ⟨rfl, rfl⟩
    · have HR : Hid (decide (lo ≤ n ∧ n ≤ hi) = false) := by simp [Hid, h1, h2]
      rw [HR.out]
      go_enter Try.func93, Try.ntmps93
      go_wp2
      go_ret
      exact ⟨rfl, rfl⟩
  · have HR : Hid (decide (lo ≤ n ∧ n ≤ hi) = false) := by simp [Hid, h1]
    rw [HR.out]
    go_enter Try.func93, Try.ntmps93
    go_wp2
    go_ret
    exact ⟨rfl, rfl⟩

set_option maxHeartbeats 1000000 in
theorem areCounts_any (c0 c1 c2 c3 c4 c5 c6 c7 c8 c9 : Int) (w : World) :
    Calls Try.prog 90 #[.agg #[.int .i64 c0, .int .i64 c1, .int .i64 c2, .int .i64 c3, .int .i64 c4, .int .i64 c5, .int .i64 c6, .int .i64 c7, .int .i64 c8, .int .i64 c9]] w fun e w' => e = .returned (.bool (decide (1 ≤ c3 ∧ c3 ≤ 8) && decide (1 ≤ c8 ∧ c8 ≤ 7) && decide (0 ≤ c9 ∧ c9 ≤ 7))) ∧ Below w.heap.size w w' := by
  have hW : Below w.heap.size w (w.alloc (.cells #[.int .i64 c0, .int .i64 c1, .int .i64 c2, .int .i64 c3, .int .i64 c4, .int .i64 c5, .int .i64 c6, .int .i64 c7, .int .i64 c8, .int .i64 c9] 42)) := (Below.refl _ _).alloc (Nat.le_refl _) _
  have HW := hide hW
  clear hW
  by_cases h0 : 1 ≤ c3 ∧ c3 ≤ 8
  · have e0 : Hid (decide (1 ≤ c3 ∧ c3 ≤ 8) = true) := by simp [Hid, h0]
    by_cases h1 : 1 ≤ c8 ∧ c8 ≤ 7
    · have e1 : Hid (decide (1 ≤ c8 ∧ c8 ≤ 7) = true) := by simp [Hid, h1]
      by_cases h2 : 0 ≤ c9 ∧ c9 ≤ 7
      · have e2 : Hid (decide (0 ≤ c9 ∧ c9 ≤ 7) = true) := by simp [Hid, h2]
        have HR : Hid ((decide (1 ≤ c3 ∧ c3 ≤ 8) && decide (1 ≤ c8 ∧ c8 ≤ 7) && decide (0 ≤ c9 ∧ c9 ≤ 7)) = true) := by rw [Hid, e0.out, e1.out, e2.out]; simp
        rw [HR.out]
        skip
        go_enter Try.func90, Try.ntmps90
        go_wp2_with fail
        refine (isWithin_any c3 (1) 8 _).mono ?_
        rintro e w1 ⟨rfl, hw1⟩
        subst hw1
        rw [e0.out]
        go_wp2_with fail
        refine (isWithin_any c8 (1) 7 _).mono ?_
        rintro e w1 ⟨rfl, hw1⟩
        subst hw1
        rw [e1.out]
        go_wp2_with fail
        refine (isWithin_any c9 (0) 7 _).mono ?_
        rintro e w1 ⟨rfl, hw1⟩
        subst hw1
        rw [e2.out]
        go_wp2
        go_ret
        exact ⟨rfl, HW.out⟩
      · have e2 : Hid (decide (0 ≤ c9 ∧ c9 ≤ 7) = false) := by simp [Hid, h2]
        have HR : Hid ((decide (1 ≤ c3 ∧ c3 ≤ 8) && decide (1 ≤ c8 ∧ c8 ≤ 7) && decide (0 ≤ c9 ∧ c9 ≤ 7)) = false) := by rw [Hid, e0.out, e1.out, e2.out]; simp
        rw [HR.out]
        skip
        go_enter Try.func90, Try.ntmps90
        go_wp2_with fail
        refine (isWithin_any c3 (1) 8 _).mono ?_
        rintro e w1 ⟨rfl, hw1⟩
        subst hw1
        rw [e0.out]
        go_wp2_with fail
        refine (isWithin_any c8 (1) 7 _).mono ?_
        rintro e w1 ⟨rfl, hw1⟩
        subst hw1
        rw [e1.out]
        go_wp2_with fail
        refine (isWithin_any c9 (0) 7 _).mono ?_
        rintro e w1 ⟨rfl, hw1⟩
        subst hw1
        rw [e2.out]
        go_wp2
        go_ret
        exact ⟨rfl, HW.out⟩
    · have e1 : Hid (decide (1 ≤ c8 ∧ c8 ≤ 7) = false) := by simp [Hid, h1]
      have HR : Hid ((decide (1 ≤ c3 ∧ c3 ≤ 8) && decide (1 ≤ c8 ∧ c8 ≤ 7) && decide (0 ≤ c9 ∧ c9 ≤ 7)) = false) := by rw [Hid, e0.out, e1.out]; simp
      rw [HR.out]
      skip
      go_enter Try.func90, Try.ntmps90
      go_wp2_with fail
      refine (isWithin_any c3 (1) 8 _).mono ?_
      rintro e w1 ⟨rfl, hw1⟩
      subst hw1
      rw [e0.out]
      go_wp2_with fail
      refine (isWithin_any c8 (1) 7 _).mono ?_
      rintro e w1 ⟨rfl, hw1⟩
      subst hw1
      rw [e1.out]
      go_wp2
      go_ret
      exact ⟨rfl, HW.out⟩
  · have e0 : Hid (decide (1 ≤ c3 ∧ c3 ≤ 8) = false) := by simp [Hid, h0]
    have HR : Hid ((decide (1 ≤ c3 ∧ c3 ≤ 8) && decide (1 ≤ c8 ∧ c8 ≤ 7) && decide (0 ≤ c9 ∧ c9 ≤ 7)) = false) := by rw [Hid, e0.out]; simp
    rw [HR.out]
    skip
    go_enter Try.func90, Try.ntmps90
    go_wp2_with fail
    refine (isWithin_any c3 (1) 8 _).mono ?_
    rintro e w1 ⟨rfl, hw1⟩
    subst hw1
    rw [e0.out]
    go_wp2
    go_ret
    exact ⟨rfl, HW.out⟩

set_option maxHeartbeats 1000000 in
theorem areWaits_any (c0 c1 c2 c3 c4 c5 c6 c7 c8 c9 : Int) (w : World) :
    Calls Try.prog 89 #[.agg #[.int .i64 c0, .int .i64 c1, .int .i64 c2, .int .i64 c3, .int .i64 c4, .int .i64 c5, .int .i64 c6, .int .i64 c7, .int .i64 c8, .int .i64 c9]] w fun e w' => e = .returned (.bool (decide (3 ≤ c4 ∧ c4 ≤ 20) && decide (4 ≤ c5 ∧ c5 ≤ 20) && decide (c4 < c5) && decide (3 ≤ c6 ∧ c6 ≤ 20))) ∧ Below w.heap.size w w' := by
  have hW : Below w.heap.size w (w.alloc (.cells #[.int .i64 c0, .int .i64 c1, .int .i64 c2, .int .i64 c3, .int .i64 c4, .int .i64 c5, .int .i64 c6, .int .i64 c7, .int .i64 c8, .int .i64 c9] 42)) := (Below.refl _ _).alloc (Nat.le_refl _) _
  have HW := hide hW
  clear hW
  by_cases h0 : 3 ≤ c4 ∧ c4 ≤ 20
  · have e0 : Hid (decide (3 ≤ c4 ∧ c4 ≤ 20) = true) := by simp [Hid, h0]
    by_cases h1 : 4 ≤ c5 ∧ c5 ≤ 20
    · have e1 : Hid (decide (4 ≤ c5 ∧ c5 ≤ 20) = true) := by simp [Hid, h1]
      by_cases h2 : c4 < c5
      · have e2 : Hid (decide (c4 < c5) = true) := by simp [Hid, h2]
        by_cases h3 : 3 ≤ c6 ∧ c6 ≤ 20
        · have e3 : Hid (decide (3 ≤ c6 ∧ c6 ≤ 20) = true) := by simp [Hid, h3]
          have HR : Hid ((decide (3 ≤ c4 ∧ c4 ≤ 20) && decide (4 ≤ c5 ∧ c5 ≤ 20) && decide (c4 < c5) && decide (3 ≤ c6 ∧ c6 ≤ 20)) = true) := by rw [Hid, e0.out, e1.out, e2.out, e3.out]; simp
          rw [HR.out]
          skip
          go_enter Try.func89, Try.ntmps89
          go_wp2_with fail
          refine (isWithin_any c4 (3) 20 _).mono ?_
          rintro e w1 ⟨rfl, hw1⟩
          subst hw1
          rw [e0.out]
          go_wp2_with fail
          refine (isWithin_any c5 (4) 20 _).mono ?_
          rintro e w1 ⟨rfl, hw1⟩
          subst hw1
          rw [e1.out]
          go_wp2_with fail
          refine (isWithin_any c6 (3) 20 _).mono ?_
          rintro e w1 ⟨rfl, hw1⟩
          subst hw1
          rw [e3.out]
          go_wp2
          go_ret
          exact ⟨rfl, HW.out⟩
        · have e3 : Hid (decide (3 ≤ c6 ∧ c6 ≤ 20) = false) := by simp [Hid, h3]
          have HR : Hid ((decide (3 ≤ c4 ∧ c4 ≤ 20) && decide (4 ≤ c5 ∧ c5 ≤ 20) && decide (c4 < c5) && decide (3 ≤ c6 ∧ c6 ≤ 20)) = false) := by rw [Hid, e0.out, e1.out, e2.out, e3.out]; simp
          rw [HR.out]
          skip
          go_enter Try.func89, Try.ntmps89
          go_wp2_with fail
          refine (isWithin_any c4 (3) 20 _).mono ?_
          rintro e w1 ⟨rfl, hw1⟩
          subst hw1
          rw [e0.out]
          go_wp2_with fail
          refine (isWithin_any c5 (4) 20 _).mono ?_
          rintro e w1 ⟨rfl, hw1⟩
          subst hw1
          rw [e1.out]
          go_wp2_with fail
          refine (isWithin_any c6 (3) 20 _).mono ?_
          rintro e w1 ⟨rfl, hw1⟩
          subst hw1
          rw [e3.out]
          go_wp2
          go_ret
          exact ⟨rfl, HW.out⟩
      · have e2 : Hid (decide (c4 < c5) = false) := by simp [Hid, h2]
        have HR : Hid ((decide (3 ≤ c4 ∧ c4 ≤ 20) && decide (4 ≤ c5 ∧ c5 ≤ 20) && decide (c4 < c5) && decide (3 ≤ c6 ∧ c6 ≤ 20)) = false) := by rw [Hid, e0.out, e1.out, e2.out]; simp
        rw [HR.out]
        skip
        go_enter Try.func89, Try.ntmps89
        go_wp2_with fail
        refine (isWithin_any c4 (3) 20 _).mono ?_
        rintro e w1 ⟨rfl, hw1⟩
        subst hw1
        rw [e0.out]
        go_wp2_with fail
        refine (isWithin_any c5 (4) 20 _).mono ?_
        rintro e w1 ⟨rfl, hw1⟩
        subst hw1
        rw [e1.out]
        go_wp2
        go_ret
        exact ⟨rfl, HW.out⟩
    · have e1 : Hid (decide (4 ≤ c5 ∧ c5 ≤ 20) = false) := by simp [Hid, h1]
      have HR : Hid ((decide (3 ≤ c4 ∧ c4 ≤ 20) && decide (4 ≤ c5 ∧ c5 ≤ 20) && decide (c4 < c5) && decide (3 ≤ c6 ∧ c6 ≤ 20)) = false) := by rw [Hid, e0.out, e1.out]; simp
      rw [HR.out]
      skip
      go_enter Try.func89, Try.ntmps89
      go_wp2_with fail
      refine (isWithin_any c4 (3) 20 _).mono ?_
      rintro e w1 ⟨rfl, hw1⟩
      subst hw1
      rw [e0.out]
      go_wp2_with fail
      refine (isWithin_any c5 (4) 20 _).mono ?_
      rintro e w1 ⟨rfl, hw1⟩
      subst hw1
      rw [e1.out]
      go_wp2
      go_ret
      exact ⟨rfl, HW.out⟩
  · have e0 : Hid (decide (3 ≤ c4 ∧ c4 ≤ 20) = false) := by simp [Hid, h0]
    have HR : Hid ((decide (3 ≤ c4 ∧ c4 ≤ 20) && decide (4 ≤ c5 ∧ c5 ≤ 20) && decide (c4 < c5) && decide (3 ≤ c6 ∧ c6 ≤ 20)) = false) := by rw [Hid, e0.out]; simp
    rw [HR.out]
    skip
    go_enter Try.func89, Try.ntmps89
    go_wp2_with fail
    refine (isWithin_any c4 (3) 20 _).mono ?_
    rintro e w1 ⟨rfl, hw1⟩
    subst hw1
    rw [e0.out]
    go_wp2
    go_ret
    exact ⟨rfl, HW.out⟩

end Go.Proofs.Ytlbpjcphhocdkaa
