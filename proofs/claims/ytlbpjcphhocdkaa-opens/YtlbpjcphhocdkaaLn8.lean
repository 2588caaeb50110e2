/- Which configurations are one: all of it. -/
import Derived.Test.YtlbpjcphhocdkaaLn7
namespace Go.Proofs.Ytlbpjcphhocdkaa
open Go.RowKit Go.Proofs.Ytlbpjcphhocdkaa.Mod Go.Proofs.Ytlbpjcphhocdkaa.Pst

set_option maxHeartbeats 1000000 in
theorem areTransmissions_any (c0 c1 c2 c3 c4 c5 c6 c7 c8 c9 : Int) (w : World) :
    Calls Try.prog 88 #[.agg #[.int .i64 c0, .int .i64 c1, .int .i64 c2, .int .i64 c3, .int .i64 c4, .int .i64 c5, .int .i64 c6, .int .i64 c7, .int .i64 c8, .int .i64 c9]] w fun e w' => e = .returned (.bool (decide (c0 = 0 ∨ c0 = 1) && decide (1 ≤ c1 ∧ c1 ≤ 32) && decide (1 ≤ c2 ∧ c2 ≤ 4))) ∧ Below w.heap.size w w' := by
  have hW : Below w.heap.size w (w.alloc (.cells #[.int .i64 c0, .int .i64 c1, .int .i64 c2, .int .i64 c3, .int .i64 c4, .int .i64 c5, .int .i64 c6, .int .i64 c7, .int .i64 c8, .int .i64 c9] 42)) := (Below.refl _ _).alloc (Nat.le_refl _) _
  have HW := hide hW
  clear hW
  rcases (show c0 = 0 ∨ c0 = 1 ∨ ¬ (c0 = 0 ∨ c0 = 1) by omega) with z0 | z0 | h0
  · have h0 : c0 = 0 ∨ c0 = 1 := Or.inl z0
    have e0 : Hid (decide (c0 = 0 ∨ c0 = 1) = true) := by simp [Hid, h0]
    have t0 : (c0 == 0) = true := by simp [z0]
    clear h0 z0
    by_cases h1 : 1 ≤ c1 ∧ c1 ≤ 32
    · have e1 : Hid (decide (1 ≤ c1 ∧ c1 ≤ 32) = true) := by simp [Hid, h1]
      by_cases h2 : 1 ≤ c2 ∧ c2 ≤ 4
      · have e2 : Hid (decide (1 ≤ c2 ∧ c2 ≤ 4) = true) := by simp [Hid, h2]
        have HR : Hid ((decide (c0 = 0 ∨ c0 = 1) && decide (1 ≤ c1 ∧ c1 ≤ 32) && decide (1 ≤ c2 ∧ c2 ≤ 4)) = true) := by rw [Hid, e0.out, e1.out, e2.out]; simp
        rw [HR.out]
        skip
        go_enter Try.func88, Try.ntmps88
        go_wp2_with fail
        refine (isWithin_any c1 (1) 32 _).mono ?_
        rintro e w1 ⟨rfl, hw1⟩
        subst hw1
        rw [e1.out]
        go_wp2_with fail
        refine (isWithin_any c2 (1) 4 _).mono ?_
        rintro e w1 ⟨rfl, hw1⟩
        subst hw1
        rw [e2.out]
        go_wp2
        go_ret
        exact ⟨rfl, HW.out⟩
      · have e2 : Hid (decide (1 ≤ c2 ∧ c2 ≤ 4) = false) := by simp [Hid, h2]
        have HR : Hid ((decide (c0 = 0 ∨ c0 = 1) && decide (1 ≤ c1 ∧ c1 ≤ 32) && decide (1 ≤ c2 ∧ c2 ≤ 4)) = false) := by rw [Hid, e0.out, e1.out, e2.out]; simp
        rw [HR.out]
        skip
        go_enter Try.func88, Try.ntmps88
        go_wp2_with fail
        refine (isWithin_any c1 (1) 32 _).mono ?_
        rintro e w1 ⟨rfl, hw1⟩
        subst hw1
        rw [e1.out]
        go_wp2_with fail
        refine (isWithin_any c2 (1) 4 _).mono ?_
        rintro e w1 ⟨rfl, hw1⟩
        subst hw1
        rw [e2.out]
        go_wp2
        go_ret
        exact ⟨rfl, HW.out⟩
    · have e1 : Hid (decide (1 ≤ c1 ∧ c1 ≤ 32) = false) := by simp [Hid, h1]
      have HR : Hid ((decide (c0 = 0 ∨ c0 = 1) && decide (1 ≤ c1 ∧ c1 ≤ 32) && decide (1 ≤ c2 ∧ c2 ≤ 4)) = false) := by rw [Hid, e0.out, e1.out]; simp
      rw [HR.out]
      skip
      go_enter Try.func88, Try.ntmps88
      go_wp2_with fail
      refine (isWithin_any c1 (1) 32 _).mono ?_
      rintro e w1 ⟨rfl, hw1⟩
      subst hw1
      rw [e1.out]
      go_wp2
      go_ret
      exact ⟨rfl, HW.out⟩
  · have h0 : c0 = 0 ∨ c0 = 1 := Or.inr z0
    have e0 : Hid (decide (c0 = 0 ∨ c0 = 1) = true) := by simp [Hid, h0]
    have t0 : (c0 == 0) = false := by simp [z0]
    have t1 : (c0 == 1) = true := by simp [z0]
    clear h0 z0
    by_cases h1 : 1 ≤ c1 ∧ c1 ≤ 32
    · have e1 : Hid (decide (1 ≤ c1 ∧ c1 ≤ 32) = true) := by simp [Hid, h1]
      by_cases h2 : 1 ≤ c2 ∧ c2 ≤ 4
      · have e2 : Hid (decide (1 ≤ c2 ∧ c2 ≤ 4) = true) := by simp [Hid, h2]
        have HR : Hid ((decide (c0 = 0 ∨ c0 = 1) && decide (1 ≤ c1 ∧ c1 ≤ 32) && decide (1 ≤ c2 ∧ c2 ≤ 4)) = true) := by rw [Hid, e0.out, e1.out, e2.out]; simp
        rw [HR.out]
        skip
        go_enter Try.func88, Try.ntmps88
        go_wp2_with fail
        refine (isWithin_any c1 (1) 32 _).mono ?_
        rintro e w1 ⟨rfl, hw1⟩
        subst hw1
        rw [e1.out]
        go_wp2_with fail
        refine (isWithin_any c2 (1) 4 _).mono ?_
        rintro e w1 ⟨rfl, hw1⟩
        subst hw1
        rw [e2.out]
        go_wp2
        go_ret
        exact ⟨rfl, HW.out⟩
      · have e2 : Hid (decide (1 ≤ c2 ∧ c2 ≤ 4) = false) := by simp [Hid, h2]
        have HR : Hid ((decide (c0 = 0 ∨ c0 = 1) && decide (1 ≤ c1 ∧ c1 ≤ 32) && decide (1 ≤ c2 ∧ c2 ≤ 4)) = false) := by rw [Hid, e0.out, e1.out, e2.out]; simp
        rw [HR.out]
        skip
        go_enter Try.func88, Try.ntmps88
        go_wp2_with fail
        refine (isWithin_any c1 (1) 32 _).mono ?_
        rintro e w1 ⟨rfl, hw1⟩
        subst hw1
        rw [e1.out]
        go_wp2_with fail
        refine (isWithin_any c2 (1) 4 _).mono ?_
        rintro e w1 ⟨rfl, hw1⟩
        subst hw1
        rw [e2.out]
        go_wp2
        go_ret
        exact ⟨rfl, HW.out⟩
    · have e1 : Hid (decide (1 ≤ c1 ∧ c1 ≤ 32) = false) := by simp [Hid, h1]
      have HR : Hid ((decide (c0 = 0 ∨ c0 = 1) && decide (1 ≤ c1 ∧ c1 ≤ 32) && decide (1 ≤ c2 ∧ c2 ≤ 4)) = false) := by rw [Hid, e0.out, e1.out]; simp
      rw [HR.out]
      skip
      go_enter Try.func88, Try.ntmps88
      go_wp2_with fail
      refine (isWithin_any c1 (1) 32 _).mono ?_
      rintro e w1 ⟨rfl, hw1⟩
      subst hw1
      rw [e1.out]
      go_wp2
      go_ret
      exact ⟨rfl, HW.out⟩
  · have e0 : Hid (decide (c0 = 0 ∨ c0 = 1) = false) := by simp [Hid, h0]
    have t0 : (c0 == 0) = false := by simp; omega
    have t1 : (c0 == 1) = false := by simp; omega
    clear h0
    have HR : Hid ((decide (c0 = 0 ∨ c0 = 1) && decide (1 ≤ c1 ∧ c1 ≤ 32) && decide (1 ≤ c2 ∧ c2 ≤ 4)) = false) := by rw [Hid, e0.out]; simp
    rw [HR.out]
    skip
    go_enter Try.func88, Try.ntmps88
    go_wp2
    go_ret
    exact ⟨rfl, HW.out⟩


set_option maxHeartbeats 1000000 in
theorem isLost_any (c0 c1 c2 c3 c4 c5 c6 c7 c8 c9 : Int) (w : World) (h6 : 3 ≤ c6 ∧ c6 ≤ 20) (h8 : 1 ≤ c8 ∧ c8 ≤ 7) :
    Calls Try.prog 91 #[.agg #[.int .i64 c0, .int .i64 c1, .int .i64 c2, .int .i64 c3, .int .i64 c4, .int .i64 c5, .int .i64 c6, .int .i64 c7, .int .i64 c8, .int .i64 c9]] w fun e w' => e = .returned (.bool (decide ((c8 + 2) * c6 + 2 ≤ c7 ∧ c7 ≤ 255))) ∧ Below w.heap.size w w' := by
  have hm1 : (c8 + 2) * c6 ≤ 9 * 20 := Int.mul_le_mul (by omega) (by omega) (by omega) (by omega)
  have hm0 : 0 ≤ (c8 + 2) * c6 := Int.mul_nonneg (by omega) (by omega)
  generalize hM : (c8 + 2) * c6 = M at *
  have hMr : (c8 + 2) * c6 = M := hM
  generalize hD : decide (M + 2 ≤ c7 ∧ c7 ≤ 255) = D at *
  have HD := hide hD
  clear hD hM
  go_enter Try.func91, Try.ntmps91
  go_wp2_with fail
  refine (isWithin_any c7 (M + 2) 255 _).mono ?_
  rintro e w1 ⟨rfl, hw1⟩
  subst hw1
  rw [HD.out]
  go_wp2
  go_ret
  exact ⟨rfl, (Below.refl _ _).alloc (Nat.le_refl _) _⟩

/-- P7's bounds, of any ten numbers. -/
def mayI (c0 c1 c2 c3 c4 c5 c6 c7 c8 c9 : Int) : Bool := ((decide (c0 = 0 ∨ c0 = 1) && decide (1 ≤ c1 ∧ c1 ≤ 32) && decide (1 ≤ c2 ∧ c2 ≤ 4)) && (decide (3 ≤ c4 ∧ c4 ≤ 20) && decide (4 ≤ c5 ∧ c5 ≤ 20) && decide (c4 < c5) && decide (3 ≤ c6 ∧ c6 ≤ 20)) && (decide (1 ≤ c3 ∧ c3 ≤ 8) && decide (1 ≤ c8 ∧ c8 ≤ 7) && decide (0 ≤ c9 ∧ c9 ≤ 7)) && decide ((c8 + 2) * c6 + 2 ≤ c7 ∧ c7 ≤ 255))

theorem CfgI.at {w : World} {g : Nat} (hg : w.heap.size = g) (c0 c1 c2 c3 c4 c5 c6 c7 c8 c9 : Int) : (w.alloc (.cells #[.int .i64 c0, .int .i64 c1, .int .i64 c2, .int .i64 c3, .int .i64 c4, .int .i64 c5, .int .i64 c6, .int .i64 c7, .int .i64 c8, .int .i64 c9] 42)).heap[g]? = some (.cells #[.int .i64 c0, .int .i64 c1, .int .i64 c2, .int .i64 c3, .int .i64 c4, .int .i64 c5, .int .i64 c6, .int .i64 c7, .int .i64 c8, .int .i64 c9] 42 (0, 0)) := by subst hg; exact heap_alloc_new w _

def CfgIAt (W : World) (g : Nat) (c0 c1 c2 c3 c4 c5 c6 c7 c8 c9 : Int) : Prop := W.heap[g]? = some (.cells #[.int .i64 c0, .int .i64 c1, .int .i64 c2, .int .i64 c3, .int .i64 c4, .int .i64 c5, .int .i64 c6, .int .i64 c7, .int .i64 c8, .int .i64 c9] 42 (0, 0))
theorem CfgIAt.all {W : World} {g : Nat} {c0 c1 c2 c3 c4 c5 c6 c7 c8 c9 : Int} (h : CfgIAt W g c0 c1 c2 c3 c4 c5 c6 c7 c8 c9) : W.cell? ⟨g, 0, none⟩ = some (.int .i64 c0) ∧ W.cell? ⟨g, 1, none⟩ = some (.int .i64 c1) ∧ W.cell? ⟨g, 2, none⟩ = some (.int .i64 c2) ∧ W.cell? ⟨g, 3, none⟩ = some (.int .i64 c3) ∧ W.cell? ⟨g, 4, none⟩ = some (.int .i64 c4) ∧ W.cell? ⟨g, 5, none⟩ = some (.int .i64 c5) ∧ W.cell? ⟨g, 6, none⟩ = some (.int .i64 c6) ∧ W.cell? ⟨g, 7, none⟩ = some (.int .i64 c7) ∧ W.cell? ⟨g, 8, none⟩ = some (.int .i64 c8) ∧ W.cell? ⟨g, 9, none⟩ = some (.int .i64 c9) := by
  unfold CfgIAt at h
  simp [World.cell?, h]
theorem CfgIAt.below {W W' : World} {g : Nat} {c0 c1 c2 c3 c4 c5 c6 c7 c8 c9 : Int} (h : CfgIAt W g c0 c1 c2 c3 c4 c5 c6 c7 c8 c9) (k : Below W.heap.size W W') : CfgIAt W' g c0 c1 c2 c3 c4 c5 c6 c7 c8 c9 := (k.block g (lt_of_block h)).trans h

set_option maxHeartbeats 1000000 in
set_option maxRecDepth 1000000 in
theorem isConfig_any (c0 c1 c2 c3 c4 c5 c6 c7 c8 c9 : Int) (w : World) :
    Calls Try.prog 81 #[.agg #[.int .i64 c0, .int .i64 c1, .int .i64 c2, .int .i64 c3, .int .i64 c4, .int .i64 c5, .int .i64 c6, .int .i64 c7, .int .i64 c8, .int .i64 c9]] w fun e w' => e = .returned (.bool (mayI c0 c1 c2 c3 c4 c5 c6 c7 c8 c9)) ∧ Below w.heap.size w w' := by
  have HM : Hid (mayI c0 c1 c2 c3 c4 c5 c6 c7 c8 c9 = ((decide (c0 = 0 ∨ c0 = 1) && decide (1 ≤ c1 ∧ c1 ≤ 32) && decide (1 ≤ c2 ∧ c2 ≤ 4)) && (decide (3 ≤ c4 ∧ c4 ≤ 20) && decide (4 ≤ c5 ∧ c5 ≤ 20) && decide (c4 < c5) && decide (3 ≤ c6 ∧ c6 ≤ 20)) && (decide (1 ≤ c3 ∧ c3 ≤ 8) && decide (1 ≤ c8 ∧ c8 ≤ 7) && decide (0 ≤ c9 ∧ c9 ≤ 7)) && decide ((c8 + 2) * c6 + 2 ≤ c7 ∧ c7 ≤ 255))) := rfl
  cases e0 : (decide (c0 = 0 ∨ c0 = 1) && decide (1 ≤ c1 ∧ c1 ≤ 32) && decide (1 ≤ c2 ∧ c2 ≤ 4))
  · have HR : Hid (mayI c0 c1 c2 c3 c4 c5 c6 c7 c8 c9 = false) := by rw [Hid, HM.out, e0]; simp
    rw [HR.out]
    have Y0 := hide e0
    clear e0
    go_enter Try.func81, Try.ntmps81
    go_wp2_with fail
    refine (areTransmissions_any c0 c1 c2 c3 c4 c5 c6 c7 c8 c9 _).mono ?_
    rintro e w1 ⟨rfl, hb1⟩
    rw [Y0.out]
    have X1 : CfgIAt w1 w.heap.size c0 c1 c2 c3 c4 c5 c6 c7 c8 c9 := CfgIAt.below (CfgI.at rfl c0 c1 c2 c3 c4 c5 c6 c7 c8 c9) hb1
    have B1 : Below w.heap.size w w1 := below_step ((Below.refl _ _).alloc (Nat.le_refl _) _) hb1
    obtain ⟨k10, k11, k12, k13, k14, k15, k16, k17, k18, k19⟩ := X1.all
    have XX1 := hide X1
    have BB1 := hide B1
    clear X1 B1 hb1
    go_wp2
    go_ret
    exact ⟨rfl, BB1.out⟩
  · have E0 := hide e0
    cases e1 : (decide (3 ≤ c4 ∧ c4 ≤ 20) && decide (4 ≤ c5 ∧ c5 ≤ 20) && decide (c4 < c5) && decide (3 ≤ c6 ∧ c6 ≤ 20))
    · have HR : Hid (mayI c0 c1 c2 c3 c4 c5 c6 c7 c8 c9 = false) := by rw [Hid, HM.out, e0, e1]; simp
      rw [HR.out]
      have Y0 := hide e0
      have Y1 := hide e1
      clear e0 e1
      go_enter Try.func81, Try.ntmps81
      go_wp2_with fail
      refine (areTransmissions_any c0 c1 c2 c3 c4 c5 c6 c7 c8 c9 _).mono ?_
      rintro e w1 ⟨rfl, hb1⟩
      rw [Y0.out]
      have X1 : CfgIAt w1 w.heap.size c0 c1 c2 c3 c4 c5 c6 c7 c8 c9 := CfgIAt.below (CfgI.at rfl c0 c1 c2 c3 c4 c5 c6 c7 c8 c9) hb1
      have B1 : Below w.heap.size w w1 := below_step ((Below.refl _ _).alloc (Nat.le_refl _) _) hb1
      obtain ⟨k10, k11, k12, k13, k14, k15, k16, k17, k18, k19⟩ := X1.all
      have XX1 := hide X1
      have BB1 := hide B1
      clear X1 B1 hb1
      go_wp2_with fail
      refine (areWaits_any c0 c1 c2 c3 c4 c5 c6 c7 c8 c9 _).mono ?_
      rintro e w2 ⟨rfl, hb2⟩
      rw [Y1.out]
      have X2 := XX1.out.below hb2
      have B2 := below_step BB1.out hb2
      obtain ⟨k20, k21, k22, k23, k24, k25, k26, k27, k28, k29⟩ := X2.all
      have XX2 := hide X2
      have BB2 := hide B2
      clear X2 B2 hb2
      go_wp2
      go_ret
      exact ⟨rfl, BB2.out⟩
    · have E1 := hide e1
      cases e2 : (decide (1 ≤ c3 ∧ c3 ≤ 8) && decide (1 ≤ c8 ∧ c8 ≤ 7) && decide (0 ≤ c9 ∧ c9 ≤ 7))
      · have HR : Hid (mayI c0 c1 c2 c3 c4 c5 c6 c7 c8 c9 = false) := by rw [Hid, HM.out, e0, e1, e2]; simp
        rw [HR.out]
        have Y0 := hide e0
        have Y1 := hide e1
        have Y2 := hide e2
        clear e0 e1 e2
        go_enter Try.func81, Try.ntmps81
        go_wp2_with fail
        refine (areTransmissions_any c0 c1 c2 c3 c4 c5 c6 c7 c8 c9 _).mono ?_
        rintro e w1 ⟨rfl, hb1⟩
        rw [Y0.out]
        have X1 : CfgIAt w1 w.heap.size c0 c1 c2 c3 c4 c5 c6 c7 c8 c9 := CfgIAt.below (CfgI.at rfl c0 c1 c2 c3 c4 c5 c6 c7 c8 c9) hb1
        have B1 : Below w.heap.size w w1 := below_step ((Below.refl _ _).alloc (Nat.le_refl _) _) hb1
        obtain ⟨k10, k11, k12, k13, k14, k15, k16, k17, k18, k19⟩ := X1.all
        have XX1 := hide X1
        have BB1 := hide B1
        clear X1 B1 hb1
        go_wp2_with fail
        refine (areWaits_any c0 c1 c2 c3 c4 c5 c6 c7 c8 c9 _).mono ?_
        rintro e w2 ⟨rfl, hb2⟩
        rw [Y1.out]
        have X2 := XX1.out.below hb2
        have B2 := below_step BB1.out hb2
        obtain ⟨k20, k21, k22, k23, k24, k25, k26, k27, k28, k29⟩ := X2.all
        have XX2 := hide X2
        have BB2 := hide B2
        clear X2 B2 hb2
        go_wp2_with fail
        refine (areCounts_any c0 c1 c2 c3 c4 c5 c6 c7 c8 c9 _).mono ?_
        rintro e w3 ⟨rfl, hb3⟩
        rw [Y2.out]
        have X3 := XX2.out.below hb3
        have B3 := below_step BB2.out hb3
        obtain ⟨k30, k31, k32, k33, k34, k35, k36, k37, k38, k39⟩ := X3.all
        have XX3 := hide X3
        have BB3 := hide B3
        clear X3 B3 hb3
        go_wp2
        go_ret
        exact ⟨rfl, BB3.out⟩
      · have E2 := hide e2
        have h6 : 3 ≤ c6 ∧ c6 ≤ 20 := by simp at e1; omega
        have h8 : 1 ≤ c8 ∧ c8 ≤ 7 := by simp at e2; omega
        cases e3 : decide ((c8 + 2) * c6 + 2 ≤ c7 ∧ c7 ≤ 255)
        · have HR : Hid (mayI c0 c1 c2 c3 c4 c5 c6 c7 c8 c9 = false) := by rw [Hid, HM.out, e0, e1, e2, e3]; simp
          rw [HR.out]
          have Y0 := hide e0
          have Y1 := hide e1
          have Y2 := hide e2
          have Y3 := hide e3
          clear e0 e1 e2 e3
          go_enter Try.func81, Try.ntmps81
          go_wp2_with fail
          refine (areTransmissions_any c0 c1 c2 c3 c4 c5 c6 c7 c8 c9 _).mono ?_
          rintro e w1 ⟨rfl, hb1⟩
          rw [Y0.out]
          have X1 : CfgIAt w1 w.heap.size c0 c1 c2 c3 c4 c5 c6 c7 c8 c9 := CfgIAt.below (CfgI.at rfl c0 c1 c2 c3 c4 c5 c6 c7 c8 c9) hb1
          have B1 : Below w.heap.size w w1 := below_step ((Below.refl _ _).alloc (Nat.le_refl _) _) hb1
          obtain ⟨k10, k11, k12, k13, k14, k15, k16, k17, k18, k19⟩ := X1.all
          have XX1 := hide X1
          have BB1 := hide B1
          clear X1 B1 hb1
          go_wp2_with fail
          refine (areWaits_any c0 c1 c2 c3 c4 c5 c6 c7 c8 c9 _).mono ?_
          rintro e w2 ⟨rfl, hb2⟩
          rw [Y1.out]
          have X2 := XX1.out.below hb2
          have B2 := below_step BB1.out hb2
          obtain ⟨k20, k21, k22, k23, k24, k25, k26, k27, k28, k29⟩ := X2.all
          have XX2 := hide X2
          have BB2 := hide B2
          clear X2 B2 hb2
          go_wp2_with fail
          refine (areCounts_any c0 c1 c2 c3 c4 c5 c6 c7 c8 c9 _).mono ?_
          rintro e w3 ⟨rfl, hb3⟩
          rw [Y2.out]
          have X3 := XX2.out.below hb3
          have B3 := below_step BB2.out hb3
          obtain ⟨k30, k31, k32, k33, k34, k35, k36, k37, k38, k39⟩ := X3.all
          have XX3 := hide X3
          have BB3 := hide B3
          clear X3 B3 hb3
          go_wp2_with fail
          refine (isLost_any c0 c1 c2 c3 c4 c5 c6 c7 c8 c9 _ h6 h8).mono ?_
          rintro e w4 ⟨rfl, hb4⟩
          rw [Y3.out]
          have X4 := XX3.out.below hb4
          have B4 := below_step BB3.out hb4
          obtain ⟨k40, k41, k42, k43, k44, k45, k46, k47, k48, k49⟩ := X4.all
          have XX4 := hide X4
          have BB4 := hide B4
          clear X4 B4 hb4
          go_wp2
          go_ret
          exact ⟨rfl, BB4.out⟩
        · have HR : Hid (mayI c0 c1 c2 c3 c4 c5 c6 c7 c8 c9 = true) := by rw [Hid, HM.out, e0, e1, e2, e3]; simp
          rw [HR.out]
          have Y0 := hide e0
          have Y1 := hide e1
          have Y2 := hide e2
          have Y3 := hide e3
          clear e0 e1 e2 e3
          go_enter Try.func81, Try.ntmps81
          go_wp2_with fail
          refine (areTransmissions_any c0 c1 c2 c3 c4 c5 c6 c7 c8 c9 _).mono ?_
          rintro e w1 ⟨rfl, hb1⟩
          rw [Y0.out]
          have X1 : CfgIAt w1 w.heap.size c0 c1 c2 c3 c4 c5 c6 c7 c8 c9 := CfgIAt.below (CfgI.at rfl c0 c1 c2 c3 c4 c5 c6 c7 c8 c9) hb1
          have B1 : Below w.heap.size w w1 := below_step ((Below.refl _ _).alloc (Nat.le_refl _) _) hb1
          obtain ⟨k10, k11, k12, k13, k14, k15, k16, k17, k18, k19⟩ := X1.all
          have XX1 := hide X1
          have BB1 := hide B1
          clear X1 B1 hb1
          go_wp2_with fail
          refine (areWaits_any c0 c1 c2 c3 c4 c5 c6 c7 c8 c9 _).mono ?_
          rintro e w2 ⟨rfl, hb2⟩
          rw [Y1.out]
          have X2 := XX1.out.below hb2
          have B2 := below_step BB1.out hb2
          obtain ⟨k20, k21, k22, k23, k24, k25, k26, k27, k28, k29⟩ := X2.all
          have XX2 := hide X2
          have BB2 := hide B2
          clear X2 B2 hb2
          go_wp2_with fail
          refine (areCounts_any c0 c1 c2 c3 c4 c5 c6 c7 c8 c9 _).mono ?_
          rintro e w3 ⟨rfl, hb3⟩
          rw [Y2.out]
          have X3 := XX2.out.below hb3
          have B3 := below_step BB2.out hb3
          obtain ⟨k30, k31, k32, k33, k34, k35, k36, k37, k38, k39⟩ := X3.all
          have XX3 := hide X3
          have BB3 := hide B3
          clear X3 B3 hb3
          go_wp2_with fail
          refine (isLost_any c0 c1 c2 c3 c4 c5 c6 c7 c8 c9 _ h6 h8).mono ?_
          rintro e w4 ⟨rfl, hb4⟩
          rw [Y3.out]
          have X4 := XX3.out.below hb4
          have B4 := below_step BB3.out hb4
          obtain ⟨k40, k41, k42, k43, k44, k45, k46, k47, k48, k49⟩ := X4.all
          have XX4 := hide X4
          have BB4 := hide B4
          clear X4 B4 hb4
          go_wp2
          go_ret
          exact ⟨rfl, BB4.out⟩

end Go.Proofs.Ytlbpjcphhocdkaa
