/- Which configurations are one: all of it. A line is made. What can be asked of a line. -/
import Derived.Test.YtlbpjcphhocdkaaGreatQ03
set_option maxRecDepth 1000000
set_option maxHeartbeats 16000000
namespace Go.Proofs.YtlbpjcphhocdkaaGreat
open Go.RowKit Go.Proofs.YtlbpjcphhocdkaaGreat.Mod Go.Proofs.YtlbpjcphhocdkaaGreat.Pst
theorem areTransmissions_any (c0 c1 c2 c3 c4 c5 c6 c7 c8 c9:Int) (w:World) :
  Calls Tryz.prog 53 #[.agg #[.int .i64 c0,.int .i64 c1,.int .i64 c2,.int .i64 c3,.int .i64 c4,.int .i64 c5,.int .i64 c6,.int .i64 c7,.int .i64 c8,.int .i64 c9]] w fun e w'=>e = .returned (.bool (decide (c0 = 0 ∨ c0 = 1) && decide (1 ≤ c1 ∧ c1 ≤ 32) && decide (1 ≤ c2 ∧ c2 ≤ 4))) ∧ Below w.heap.size w w':=by
 have hW:Below w.heap.size w (w.alloc (.cells #[.int .i64 c0,.int .i64 c1,.int .i64 c2,.int .i64 c3,.int .i64 c4,.int .i64 c5,.int .i64 c6,.int .i64 c7,.int .i64 c8,.int .i64 c9] 26)):=(Below.refl _ _).alloc (Nat.le_refl _) _
 have HW:=hide hW
 clear hW
 rcases (show c0 = 0 ∨ c0 = 1 ∨ ¬ (c0 = 0 ∨ c0 = 1) by omega) with z0 | z0 | h0
 ·have h0:c0 = 0 ∨ c0 = 1:=Or.inl z0
  have e0:Hid (decide (c0 = 0 ∨ c0 = 1) = true):=by simp [Hid,h0]
  have t0:(c0 == 0) = true:=by simp [z0]
  clear h0 z0
  by_cases h1:1 ≤ c1 ∧ c1 ≤ 32
  ·have e1:Hid (decide (1 ≤ c1 ∧ c1 ≤ 32) = true):=by simp [Hid,h1]
   by_cases h2:1 ≤ c2 ∧ c2 ≤ 4
   ·have e2:Hid (decide (1 ≤ c2 ∧ c2 ≤ 4) = true):=by simp [Hid,h2]
    have HR:Hid ((decide (c0 = 0 ∨ c0 = 1) && decide (1 ≤ c1 ∧ c1 ≤ 32) && decide (1 ≤ c2 ∧ c2 ≤ 4)) = true):=by rw [Hid,e0.out,e1.out,e2.out]; simp
    rw [HR.out]
    skip
    go_enter Tryz.func53,Tryz.ntmps53
    go_wp2_with fail
    refine (isWithin_any c1 (1) 32 _).mono ?_
    rintro e w1 ⟨rfl,hw1⟩
    subst hw1
    rw [e1.out]
    go_wp2_with fail
    refine (isWithin_any c2 (1) 4 _).mono ?_
    rintro e w1 ⟨rfl,hw1⟩
    subst hw1
    rw [e2.out]
    go_wp2
    go_ret
    exact ⟨rfl,HW.out⟩
   ·have e2:Hid (decide (1 ≤ c2 ∧ c2 ≤ 4) = false):=by simp [Hid,h2]
    have HR:Hid ((decide (c0 = 0 ∨ c0 = 1) && decide (1 ≤ c1 ∧ c1 ≤ 32) && decide (1 ≤ c2 ∧ c2 ≤ 4)) = false):=by rw [Hid,e0.out,e1.out,e2.out]; simp
    rw [HR.out]
    skip
    go_enter Tryz.func53,Tryz.ntmps53
    go_wp2_with fail
    refine (isWithin_any c1 (1) 32 _).mono ?_
    rintro e w1 ⟨rfl,hw1⟩
    subst hw1
    rw [e1.out]
    go_wp2_with fail
    refine (isWithin_any c2 (1) 4 _).mono ?_
    rintro e w1 ⟨rfl,hw1⟩
    subst hw1
    rw [e2.out]
    go_wp2
    go_ret
    exact ⟨rfl,HW.out⟩
  ·have e1:Hid (decide (1 ≤ c1 ∧ c1 ≤ 32) = false):=by simp [Hid,h1]
   have HR:Hid ((decide (c0 = 0 ∨ c0 = 1) && decide (1 ≤ c1 ∧ c1 ≤ 32) && decide (1 ≤ c2 ∧ c2 ≤ 4)) = false):=by rw [Hid,e0.out,e1.out]; simp
   rw [HR.out]
   skip
   go_enter Tryz.func53,Tryz.ntmps53
   go_wp2_with fail
   refine (isWithin_any c1 (1) 32 _).mono ?_
   rintro e w1 ⟨rfl,hw1⟩
   subst hw1
   rw [e1.out]
   go_wp2
   go_ret
   exact ⟨rfl,HW.out⟩
 ·have h0:c0 = 0 ∨ c0 = 1:=Or.inr z0
  have e0:Hid (decide (c0 = 0 ∨ c0 = 1) = true):=by simp [Hid,h0]
  have t0:(c0 == 0) = false:=by simp [z0]
  have t1:(c0 == 1) = true:=by simp [z0]
  clear h0 z0
  by_cases h1:1 ≤ c1 ∧ c1 ≤ 32
  ·have e1:Hid (decide (1 ≤ c1 ∧ c1 ≤ 32) = true):=by simp [Hid,h1]
   by_cases h2:1 ≤ c2 ∧ c2 ≤ 4
   ·have e2:Hid (decide (1 ≤ c2 ∧ c2 ≤ 4) = true):=by simp [Hid,h2]
    have HR:Hid ((decide (c0 = 0 ∨ c0 = 1) && decide (1 ≤ c1 ∧ c1 ≤ 32) && decide (1 ≤ c2 ∧ c2 ≤ 4)) = true):=by rw [Hid,e0.out,e1.out,e2.out]; simp
    rw [HR.out]
    skip
    go_enter Tryz.func53,Tryz.ntmps53
    go_wp2_with fail
    refine (isWithin_any c1 (1) 32 _).mono ?_
    rintro e w1 ⟨rfl,hw1⟩
    subst hw1
    rw [e1.out]
    go_wp2_with fail
    refine (isWithin_any c2 (1) 4 _).mono ?_
    rintro e w1 ⟨rfl,hw1⟩
    subst hw1
    rw [e2.out]
    go_wp2
    go_ret
    exact ⟨rfl,HW.out⟩
   ·have e2:Hid (decide (1 ≤ c2 ∧ c2 ≤ 4) = false):=by simp [Hid,h2]
    have HR:Hid ((decide (c0 = 0 ∨ c0 = 1) && decide (1 ≤ c1 ∧ c1 ≤ 32) && decide (1 ≤ c2 ∧ c2 ≤ 4)) = false):=by rw [Hid,e0.out,e1.out,e2.out]; simp
    rw [HR.out]
    skip
    go_enter Tryz.func53,Tryz.ntmps53
    go_wp2_with fail
    refine (isWithin_any c1 (1) 32 _).mono ?_
    rintro e w1 ⟨rfl,hw1⟩
    subst hw1
    rw [e1.out]
    go_wp2_with fail
    refine (isWithin_any c2 (1) 4 _).mono ?_
    rintro e w1 ⟨rfl,hw1⟩
    subst hw1
    rw [e2.out]
    go_wp2
    go_ret
    exact ⟨rfl,HW.out⟩
  ·have e1:Hid (decide (1 ≤ c1 ∧ c1 ≤ 32) = false):=by simp [Hid,h1]
   have HR:Hid ((decide (c0 = 0 ∨ c0 = 1) && decide (1 ≤ c1 ∧ c1 ≤ 32) && decide (1 ≤ c2 ∧ c2 ≤ 4)) = false):=by rw [Hid,e0.out,e1.out]; simp
   rw [HR.out]
   skip
   go_enter Tryz.func53,Tryz.ntmps53
   go_wp2_with fail
   refine (isWithin_any c1 (1) 32 _).mono ?_
   rintro e w1 ⟨rfl,hw1⟩
   subst hw1
   rw [e1.out]
   go_wp2
   go_ret
   exact ⟨rfl,HW.out⟩
 ·have e0:Hid (decide (c0 = 0 ∨ c0 = 1) = false):=by simp [Hid,h0]
  have t0:(c0 == 0) = false:=by simp; omega
  have t1:(c0 == 1) = false:=by simp; omega
  clear h0
  have HR:Hid ((decide (c0 = 0 ∨ c0 = 1) && decide (1 ≤ c1 ∧ c1 ≤ 32) && decide (1 ≤ c2 ∧ c2 ≤ 4)) = false):=by rw [Hid,e0.out]; simp
  rw [HR.out]
  skip
  go_enter Tryz.func53,Tryz.ntmps53
  go_wp2
  go_ret
  exact ⟨rfl,HW.out⟩
theorem isLost_any (c0 c1 c2 c3 c4 c5 c6 c7 c8 c9:Int) (w:World) (h6:3 ≤ c6 ∧ c6 ≤ 20) (h8:1 ≤ c8 ∧ c8 ≤ 7) :
  Calls Tryz.prog 56 #[.agg #[.int .i64 c0,.int .i64 c1,.int .i64 c2,.int .i64 c3,.int .i64 c4,.int .i64 c5,.int .i64 c6,.int .i64 c7,.int .i64 c8,.int .i64 c9]] w fun e w'=>e = .returned (.bool (decide ((c8 + 2) * c6 + 2 ≤ c7 ∧ c7 ≤ 255))) ∧ Below w.heap.size w w':=by
 have hm1:(c8 + 2) * c6 ≤ 9 * 20:=Int.mul_le_mul (by omega) (by omega) (by omega) (by omega)
 have hm0:0 ≤ (c8 + 2) * c6:=Int.mul_nonneg (by omega) (by omega)
 generalize hM:(c8 + 2) * c6 = M at *
 have hMr:(c8 + 2) * c6 = M:=hM
 generalize hD:decide (M + 2 ≤ c7 ∧ c7 ≤ 255) = D at *
 have HD:=hide hD
 clear hD hM
 go_enter Tryz.func56,Tryz.ntmps56
 go_wp2_with fail
 refine (isWithin_any c7 (M + 2) 255 _).mono ?_
 rintro e w1 ⟨rfl,hw1⟩
 subst hw1
 rw [HD.out]
 go_wp2
 go_ret
 exact ⟨rfl,(Below.refl _ _).alloc (Nat.le_refl _) _⟩
/-- P7's bounds,of any ten numbers. -/
def mayI (c0 c1 c2 c3 c4 c5 c6 c7 c8 c9:Int):Bool:=((decide (c0 = 0 ∨ c0 = 1) && decide (1 ≤ c1 ∧ c1 ≤ 32) && decide (1 ≤ c2 ∧ c2 ≤ 4)) && (decide (3 ≤ c4 ∧ c4 ≤ 20) && decide (4 ≤ c5 ∧ c5 ≤ 20) && decide (c4 < c5) && decide (3 ≤ c6 ∧ c6 ≤ 20)) && (decide (1 ≤ c3 ∧ c3 ≤ 8) && decide (1 ≤ c8 ∧ c8 ≤ 7) && decide (0 ≤ c9 ∧ c9 ≤ 7)) && decide ((c8 + 2) * c6 + 2 ≤ c7 ∧ c7 ≤ 255))
theorem CfgI.at {w:World} {g:Nat} (hg:w.heap.size = g) (c0 c1 c2 c3 c4 c5 c6 c7 c8 c9:Int):(w.alloc (.cells #[.int .i64 c0,.int .i64 c1,.int .i64 c2,.int .i64 c3,.int .i64 c4,.int .i64 c5,.int .i64 c6,.int .i64 c7,.int .i64 c8,.int .i64 c9] 26)).heap[g]? = some (.cells #[.int .i64 c0,.int .i64 c1,.int .i64 c2,.int .i64 c3,.int .i64 c4,.int .i64 c5,.int .i64 c6,.int .i64 c7,.int .i64 c8,.int .i64 c9] 26 (0,0)):=by subst hg; exact heap_alloc_new w _
def CfgIAt (W:World) (g:Nat) (c0 c1 c2 c3 c4 c5 c6 c7 c8 c9:Int):Prop:=W.heap[g]? = some (.cells #[.int .i64 c0,.int .i64 c1,.int .i64 c2,.int .i64 c3,.int .i64 c4,.int .i64 c5,.int .i64 c6,.int .i64 c7,.int .i64 c8,.int .i64 c9] 26 (0,0))
theorem CfgIAt.all {W:World} {g:Nat} {c0 c1 c2 c3 c4 c5 c6 c7 c8 c9:Int} (h:CfgIAt W g c0 c1 c2 c3 c4 c5 c6 c7 c8 c9):W.cell? ⟨g,0,none⟩ = some (.int .i64 c0) ∧ W.cell? ⟨g,1,none⟩ = some (.int .i64 c1) ∧ W.cell? ⟨g,2,none⟩ = some (.int .i64 c2) ∧ W.cell? ⟨g,3,none⟩ = some (.int .i64 c3) ∧ W.cell? ⟨g,4,none⟩ = some (.int .i64 c4) ∧ W.cell? ⟨g,5,none⟩ = some (.int .i64 c5) ∧ W.cell? ⟨g,6,none⟩ = some (.int .i64 c6) ∧ W.cell? ⟨g,7,none⟩ = some (.int .i64 c7) ∧ W.cell? ⟨g,8,none⟩ = some (.int .i64 c8) ∧ W.cell? ⟨g,9,none⟩ = some (.int .i64 c9):=by
 unfold CfgIAt at h
 simp [World.cell?,h]
theorem CfgIAt.below {W W':World} {g:Nat} {c0 c1 c2 c3 c4 c5 c6 c7 c8 c9:Int} (h:CfgIAt W g c0 c1 c2 c3 c4 c5 c6 c7 c8 c9) (k:Below W.heap.size W W'):CfgIAt W' g c0 c1 c2 c3 c4 c5 c6 c7 c8 c9:=(k.block g (lt_of_block h)).trans h
set_option maxRecDepth 1000000 in
theorem isConfig_any (c0 c1 c2 c3 c4 c5 c6 c7 c8 c9:Int) (w:World) :
  Calls Tryz.prog 26 #[.agg #[.int .i64 c0,.int .i64 c1,.int .i64 c2,.int .i64 c3,.int .i64 c4,.int .i64 c5,.int .i64 c6,.int .i64 c7,.int .i64 c8,.int .i64 c9]] w fun e w'=>e = .returned (.bool (mayI c0 c1 c2 c3 c4 c5 c6 c7 c8 c9)) ∧ Below w.heap.size w w':=by
 have HM:Hid (mayI c0 c1 c2 c3 c4 c5 c6 c7 c8 c9 = ((decide (c0 = 0 ∨ c0 = 1) && decide (1 ≤ c1 ∧ c1 ≤ 32) && decide (1 ≤ c2 ∧ c2 ≤ 4)) && (decide (3 ≤ c4 ∧ c4 ≤ 20) && decide (4 ≤ c5 ∧ c5 ≤ 20) && decide (c4 < c5) && decide (3 ≤ c6 ∧ c6 ≤ 20)) && (decide (1 ≤ c3 ∧ c3 ≤ 8) && decide (1 ≤ c8 ∧ c8 ≤ 7) && decide (0 ≤ c9 ∧ c9 ≤ 7)) && decide ((c8 + 2) * c6 + 2 ≤ c7 ∧ c7 ≤ 255))):=rfl
 cases e0:(decide (c0 = 0 ∨ c0 = 1) && decide (1 ≤ c1 ∧ c1 ≤ 32) && decide (1 ≤ c2 ∧ c2 ≤ 4))
 ·have HR:Hid (mayI c0 c1 c2 c3 c4 c5 c6 c7 c8 c9 = false):=by rw [Hid,HM.out,e0]; simp
  rw [HR.out]
  have Y0:=hide e0
  clear e0
  go_enter Tryz.func26,Tryz.ntmps26
  go_wp2_with fail
  refine (areTransmissions_any c0 c1 c2 c3 c4 c5 c6 c7 c8 c9 _).mono ?_
  rintro e w1 ⟨rfl,hb1⟩
  rw [Y0.out]
  have X1:CfgIAt w1 w.heap.size c0 c1 c2 c3 c4 c5 c6 c7 c8 c9:=CfgIAt.below (CfgI.at rfl c0 c1 c2 c3 c4 c5 c6 c7 c8 c9) hb1
  have B1:Below w.heap.size w w1:=below_step ((Below.refl _ _).alloc (Nat.le_refl _) _) hb1
  obtain ⟨k10,k11,k12,k13,k14,k15,k16,k17,k18,k19⟩:=X1.all
  have XX1:=hide X1
  have BB1:=hide B1
  clear X1 B1 hb1
  go_wp2
  go_ret
  exact ⟨rfl,BB1.out⟩
 ·have E0:=hide e0
  cases e1:(decide (3 ≤ c4 ∧ c4 ≤ 20) && decide (4 ≤ c5 ∧ c5 ≤ 20) && decide (c4 < c5) && decide (3 ≤ c6 ∧ c6 ≤ 20))
  ·have HR:Hid (mayI c0 c1 c2 c3 c4 c5 c6 c7 c8 c9 = false):=by rw [Hid,HM.out,e0,e1]; simp
   rw [HR.out]
   have Y0:=hide e0
   have Y1:=hide e1
   clear e0 e1
   go_enter Tryz.func26,Tryz.ntmps26
   go_wp2_with fail
   refine (areTransmissions_any c0 c1 c2 c3 c4 c5 c6 c7 c8 c9 _).mono ?_
   rintro e w1 ⟨rfl,hb1⟩
   rw [Y0.out]
   have X1:CfgIAt w1 w.heap.size c0 c1 c2 c3 c4 c5 c6 c7 c8 c9:=CfgIAt.below (CfgI.at rfl c0 c1 c2 c3 c4 c5 c6 c7 c8 c9) hb1
   have B1:Below w.heap.size w w1:=below_step ((Below.refl _ _).alloc (Nat.le_refl _) _) hb1
   obtain ⟨k10,k11,k12,k13,k14,k15,k16,k17,k18,k19⟩:=X1.all
   have XX1:=hide X1
   have BB1:=hide B1
   clear X1 B1 hb1
   go_wp2_with fail
   refine (areWaits_any c0 c1 c2 c3 c4 c5 c6 c7 c8 c9 _).mono ?_
   rintro e w2 ⟨rfl,hb2⟩
   rw [Y1.out]
   have X2:=XX1.out.below hb2
   have B2:=below_step BB1.out hb2
   obtain ⟨k20,k21,k22,k23,k24,k25,k26,k27,k28,k29⟩:=X2.all
   have XX2:=hide X2
   have BB2:=hide B2
   clear X2 B2 hb2
   go_wp2
   go_ret
   exact ⟨rfl,BB2.out⟩
  ·have E1:=hide e1
   cases e2:(decide (1 ≤ c3 ∧ c3 ≤ 8) && decide (1 ≤ c8 ∧ c8 ≤ 7) && decide (0 ≤ c9 ∧ c9 ≤ 7))
   ·have HR:Hid (mayI c0 c1 c2 c3 c4 c5 c6 c7 c8 c9 = false):=by rw [Hid,HM.out,e0,e1,e2]; simp
    rw [HR.out]
    have Y0:=hide e0
    have Y1:=hide e1
    have Y2:=hide e2
    clear e0 e1 e2
    go_enter Tryz.func26,Tryz.ntmps26
    go_wp2_with fail
    refine (areTransmissions_any c0 c1 c2 c3 c4 c5 c6 c7 c8 c9 _).mono ?_
    rintro e w1 ⟨rfl,hb1⟩
    rw [Y0.out]
    have X1:CfgIAt w1 w.heap.size c0 c1 c2 c3 c4 c5 c6 c7 c8 c9:=CfgIAt.below (CfgI.at rfl c0 c1 c2 c3 c4 c5 c6 c7 c8 c9) hb1
    have B1:Below w.heap.size w w1:=below_step ((Below.refl _ _).alloc (Nat.le_refl _) _) hb1
    obtain ⟨k10,k11,k12,k13,k14,k15,k16,k17,k18,k19⟩:=X1.all
    have XX1:=hide X1
    have BB1:=hide B1
    clear X1 B1 hb1
    go_wp2_with fail
    refine (areWaits_any c0 c1 c2 c3 c4 c5 c6 c7 c8 c9 _).mono ?_
    rintro e w2 ⟨rfl,hb2⟩
    rw [Y1.out]
    have X2:=XX1.out.below hb2
    have B2:=below_step BB1.out hb2
    obtain ⟨k20,k21,k22,k23,k24,k25,k26,k27,k28,k29⟩:=X2.all
    have XX2:=hide X2
    have BB2:=hide B2
    clear X2 B2 hb2
    go_wp2_with fail
    refine (areCounts_any c0 c1 c2 c3 c4 c5 c6 c7 c8 c9 _).mono ?_
    rintro e w3 ⟨rfl,hb3⟩
    rw [Y2.out]
    have X3:=XX2.out.below hb3
    have B3:=below_step BB2.out hb3
    obtain ⟨k30,k31,k32,k33,k34,k35,k36,k37,k38,k39⟩:=X3.all
    have XX3:=hide X3
    have BB3:=hide B3
    clear X3 B3 hb3
    go_wp2
    go_ret
    exact ⟨rfl,BB3.out⟩
   ·have E2:=hide e2
    have h6:3 ≤ c6 ∧ c6 ≤ 20:=by simp at e1; omega
    have h8:1 ≤ c8 ∧ c8 ≤ 7:=by simp at e2; omega
    cases e3:decide ((c8 + 2) * c6 + 2 ≤ c7 ∧ c7 ≤ 255)
    ·have HR:Hid (mayI c0 c1 c2 c3 c4 c5 c6 c7 c8 c9 = false):=by rw [Hid,HM.out,e0,e1,e2,e3]; simp
     rw [HR.out]
     have Y0:=hide e0
     have Y1:=hide e1
     have Y2:=hide e2
     have Y3:=hide e3
     clear e0 e1 e2 e3
     go_enter Tryz.func26,Tryz.ntmps26
     go_wp2_with fail
     refine (areTransmissions_any c0 c1 c2 c3 c4 c5 c6 c7 c8 c9 _).mono ?_
     rintro e w1 ⟨rfl,hb1⟩
     rw [Y0.out]
     have X1:CfgIAt w1 w.heap.size c0 c1 c2 c3 c4 c5 c6 c7 c8 c9:=CfgIAt.below (CfgI.at rfl c0 c1 c2 c3 c4 c5 c6 c7 c8 c9) hb1
     have B1:Below w.heap.size w w1:=below_step ((Below.refl _ _).alloc (Nat.le_refl _) _) hb1
     obtain ⟨k10,k11,k12,k13,k14,k15,k16,k17,k18,k19⟩:=X1.all
     have XX1:=hide X1
     have BB1:=hide B1
     clear X1 B1 hb1
     go_wp2_with fail
     refine (areWaits_any c0 c1 c2 c3 c4 c5 c6 c7 c8 c9 _).mono ?_
     rintro e w2 ⟨rfl,hb2⟩
     rw [Y1.out]
     have X2:=XX1.out.below hb2
     have B2:=below_step BB1.out hb2
     obtain ⟨k20,k21,k22,k23,k24,k25,k26,k27,k28,k29⟩:=X2.all
     have XX2:=hide X2
     have BB2:=hide B2
     clear X2 B2 hb2
     go_wp2_with fail
     refine (areCounts_any c0 c1 c2 c3 c4 c5 c6 c7 c8 c9 _).mono ?_
     rintro e w3 ⟨rfl,hb3⟩
     rw [Y2.out]
     have X3:=XX2.out.below hb3
     have B3:=below_step BB2.out hb3
     obtain ⟨k30,k31,k32,k33,k34,k35,k36,k37,k38,k39⟩:=X3.all
     have XX3:=hide X3
     have BB3:=hide B3
     clear X3 B3 hb3
     go_wp2_with fail
     refine (isLost_any c0 c1 c2 c3 c4 c5 c6 c7 c8 c9 _ h6 h8).mono ?_
     rintro e w4 ⟨rfl,hb4⟩
     rw [Y3.out]
     have X4:=XX3.out.below hb4
     have B4:=below_step BB3.out hb4
     obtain ⟨k40,k41,k42,k43,k44,k45,k46,k47,k48,k49⟩:=X4.all
     have XX4:=hide X4
     have BB4:=hide B4
     clear X4 B4 hb4
     go_wp2
     go_ret
     exact ⟨rfl,BB4.out⟩
    ·have HR:Hid (mayI c0 c1 c2 c3 c4 c5 c6 c7 c8 c9 = true):=by rw [Hid,HM.out,e0,e1,e2,e3]; simp
     rw [HR.out]
     have Y0:=hide e0
     have Y1:=hide e1
     have Y2:=hide e2
     have Y3:=hide e3
     clear e0 e1 e2 e3
     go_enter Tryz.func26,Tryz.ntmps26
     go_wp2_with fail
     refine (areTransmissions_any c0 c1 c2 c3 c4 c5 c6 c7 c8 c9 _).mono ?_
     rintro e w1 ⟨rfl,hb1⟩
     rw [Y0.out]
     have X1:CfgIAt w1 w.heap.size c0 c1 c2 c3 c4 c5 c6 c7 c8 c9:=CfgIAt.below (CfgI.at rfl c0 c1 c2 c3 c4 c5 c6 c7 c8 c9) hb1
     have B1:Below w.heap.size w w1:=below_step ((Below.refl _ _).alloc (Nat.le_refl _) _) hb1
     obtain ⟨k10,k11,k12,k13,k14,k15,k16,k17,k18,k19⟩:=X1.all
     have XX1:=hide X1
     have BB1:=hide B1
     clear X1 B1 hb1
     go_wp2_with fail
     refine (areWaits_any c0 c1 c2 c3 c4 c5 c6 c7 c8 c9 _).mono ?_
     rintro e w2 ⟨rfl,hb2⟩
     rw [Y1.out]
     have X2:=XX1.out.below hb2
     have B2:=below_step BB1.out hb2
     obtain ⟨k20,k21,k22,k23,k24,k25,k26,k27,k28,k29⟩:=X2.all
     have XX2:=hide X2
     have BB2:=hide B2
     clear X2 B2 hb2
     go_wp2_with fail
     refine (areCounts_any c0 c1 c2 c3 c4 c5 c6 c7 c8 c9 _).mono ?_
     rintro e w3 ⟨rfl,hb3⟩
     rw [Y2.out]
     have X3:=XX2.out.below hb3
     have B3:=below_step BB2.out hb3
     obtain ⟨k30,k31,k32,k33,k34,k35,k36,k37,k38,k39⟩:=X3.all
     have XX3:=hide X3
     have BB3:=hide B3
     clear X3 B3 hb3
     go_wp2_with fail
     refine (isLost_any c0 c1 c2 c3 c4 c5 c6 c7 c8 c9 _ h6 h8).mono ?_
     rintro e w4 ⟨rfl,hb4⟩
     rw [Y3.out]
     have X4:=XX3.out.below hb4
     have B4:=below_step BB3.out hb4
     obtain ⟨k40,k41,k42,k43,k44,k45,k46,k47,k48,k49⟩:=X4.all
     have XX4:=hide X4
     have BB4:=hide B4
     clear X4 B4 hb4
     go_wp2
     go_ret
     exact ⟨rfl,BB4.out⟩
def newP (i:Nat):PS:=⟨i,[],0,false,[],0,0,0,0,0,false,0,[],[],0⟩
theorem may_ok {c:Cfg} (h:c.Ok):mayI c.check c.size c.parts c.queue c.first c.second c.reply c.lost c.tries c.waits = true:=by
 have h1:=h.check; have h2:=h.size; have h3:=h.parts; have h4:=h.queue; have h5:=h.first; have h6:=h.second; have h7:=h.reply; have h8:=h.tries; have h9:=h.waits; have h10:=h.lost
 have e:((c.tries:Int) + 2) * (c.reply:Int) + 2 = (((c.tries + 2) * c.reply + 2:Nat):Int):=by simp
 unfold mayI
 rw [e]
 simp only [Bool.and_eq_true,decide_eq_true_eq]
 omega
/-- Ten numbers within P7's bounds are a configuration. -/
theorem may_cfg (c0 c1 c2 c3 c4 c5 c6 c7 c8 c9:Int) (h:mayI c0 c1 c2 c3 c4 c5 c6 c7 c8 c9 = true):∃ c:Cfg,c.Ok ∧ c0 = c.check ∧ c1 = c.size ∧ c2 = c.parts ∧ c3 = c.queue ∧ c4 = c.first ∧ c5 = c.second ∧ c6 = c.reply ∧ c7 = c.lost ∧ c8 = c.tries ∧ c9 = c.waits:=by
 unfold mayI at h
 simp only [Bool.and_eq_true,decide_eq_true_eq] at h
 obtain ⟨⟨⟨⟨⟨a0,a1⟩,a2⟩,⟨⟨a4,a5⟩,a45⟩,a6⟩,⟨a3,a8⟩,a9⟩,a7⟩:=h
 have e8:(c8.toNat:Int) = c8:=by omega
 have e6:(c6.toNat:Int) = c6:=by omega
 have hm:(((c8.toNat + 2) * c6.toNat:Nat):Int) = (c8 + 2) * c6:=by rw [Int.natCast_mul,Int.natCast_add,e8,e6]; rfl
 generalize (c8 + 2) * c6 = M at *
 refine ⟨⟨c0.toNat,c1.toNat,c2.toNat,c3.toNat,c4.toNat,c5.toNat,c6.toNat,c7.toNat,c8.toNat,c9.toNat⟩,⟨?_,?_,?_,?_,?_,?_,?_,?_,?_,?_⟩,?_⟩
 all_goals (simp only; omega)
set_option maxRecDepth 1000000 in
theorem new_no (c0 c1 c2 c3 c4 c5 c6 c7 c8 c9:Int) (w:World) (h:mayI c0 c1 c2 c3 c4 c5 c6 c7 c8 c9 = false) :
  Calls Tryz.prog 14 #[.agg #[.int .i64 c0,.int .i64 c1,.int .i64 c2,.int .i64 c3,.int .i64 c4,.int .i64 c5,.int .i64 c6,.int .i64 c7,.int .i64 c8,.int .i64 c9]] w fun e w'=>e = .returned (.tuple #[.pointer none,.int .i64 6]) ∧ Below w.heap.size w w':=by
 have H:=hide h
 clear h
 go_enter Tryz.func14,Tryz.ntmps14
 go_wp2_with fail
 refine (isConfig_any c0 c1 c2 c3 c4 c5 c6 c7 c8 c9 _).mono ?_
 rintro e w1 ⟨rfl,hb1⟩
 rw [H.out]
 have B1:=hide (below_step ((Below.refl w.heap.size w).alloc (Nat.le_refl _) (.cells #[.int .i64 c0,.int .i64 c1,.int .i64 c2,.int .i64 c3,.int .i64 c4,.int .i64 c5,.int .i64 c6,.int .i64 c7,.int .i64 c8,.int .i64 c9] 26)) hb1)
 clear hb1
 go_wp2
 go_ret2
 exact ⟨rfl,B1.out⟩
/-- The line's block,when it is new. -/
def NewBlk (W:World) (b:Nat) (c:Cfg) (x:Int):Prop:=W.heap[b]? = some (.cells #[.int .i64 c.check,.int .i64 c.size,.int .i64 c.parts,.int .i64 c.queue,.int .i64 c.first,.int .i64 c.second,.int .i64 c.reply,.int .i64 c.lost,.int .i64 c.tries,.int .i64 c.waits,.int .i64 0,.slice none 0 0,.int .i64 0,.bool false,.string ⟨#[]⟩,.int .i64 0,.int .i64 0,.int .i64 0,.int .i64 0,.int .i64 0,.bool false,.int .i64 0,.string ⟨#[]⟩,.string ⟨#[]⟩,.int .i64 0,.int .i64 x,.slice none 0 0,.int .i64 0,.bool false,.string ⟨#[]⟩,.int .i64 0,.int .i64 0,.int .i64 0,.int .i64 0,.int .i64 0,.bool false,.int .i64 0,.string ⟨#[]⟩,.string ⟨#[]⟩,.int .i64 0] 74 (0,0))
theorem NewBlk.ln {W:World} {b:Nat} {c:Cfg} {F:Nat → Prop} (h:NewBlk W b c 1) (hF:F b):LnAt W F b c (newP 0) (newP 1):=by
 have hc:∀ i,W.cell? ⟨b,i,none⟩ = (#[.int .i64 c.check,.int .i64 c.size,.int .i64 c.parts,.int .i64 c.queue,.int .i64 c.first,.int .i64 c.second,.int .i64 c.reply,.int .i64 c.lost,.int .i64 c.tries,.int .i64 c.waits,.int .i64 0,.slice none 0 0,.int .i64 0,.bool false,.string ⟨#[]⟩,.int .i64 0,.int .i64 0,.int .i64 0,.int .i64 0,.int .i64 0,.bool false,.int .i64 0,.string ⟨#[]⟩,.string ⟨#[]⟩,.int .i64 0,.int .i64 1,.slice none 0 0,.int .i64 0,.bool false,.string ⟨#[]⟩,.int .i64 0,.int .i64 0,.int .i64 0,.int .i64 0,.int .i64 0,.bool false,.int .i64 0,.string ⟨#[]⟩,.string ⟨#[]⟩,.int .i64 0]:Array Value)[i]?:=by
  intro i
  unfold NewBlk at h
  simp only [World.cell?,h]
  rfl
 have hz:∀ j,W.frozen? ⟨b,j,none⟩ = false:=fun j=>Go.Joins.unfrozen_of_block h j
 refine ⟨⟨fun _=>False,fun _=>False,⟨hc 10,⟨_,hc 11,QAt.nil W _⟩,hc 12,hc 13,hc 14,hc 15,hc 16,hc 17,hc 18,hc 19,hc 20,hc 21,hc 22,hc 23,hc 24,hz,id⟩,⟨hc 25,⟨_,hc 26,QAt.nil W _⟩,hc 27,hc 28,hc 29,hc 30,hc 31,hc 32,hc 33,hc 34,hc 35,hc 36,hc 37,hc 38,hc 39,hz,id⟩,fun g h=>h.elim,fun g h=>h.elim,fun g h=>h.elim⟩,⟨hc 0,hc 1,hc 2,hc 3,hc 4,hc 5,hc 6,hc 7,hc 8,hc 9⟩,hF⟩
set_option maxRecDepth 1000000 in
theorem new_ok (c:Cfg) (w:World) (hc:c.Ok) :
  Calls Tryz.prog 14 #[cfgV c] w fun e w'=>∃ b,e = .returned (.tuple #[.pointer (some ⟨b,0,none⟩),.int .i64 0]) ∧ w.heap.size ≤ b ∧ LnAt w' (New w) b c (newP 0) (newP 1) ∧ Below w.heap.size w w':=by
 have H:=hide (may_ok hc)
 clear hc
 unfold cfgV
 go_enter Tryz.func14,Tryz.ntmps14
 go_wp2_with fail
 refine (isConfig_any _ _ _ _ _ _ _ _ _ _ _).mono ?_
 rintro e w1 ⟨rfl,hb1⟩
 rw [H.out]
 have X1:=hide ((CfgAt.new w c).below hb1)
 have B1:=hide (below_step ((Below.refl w.heap.size w).alloc (Nat.le_refl _) (.cells (cfgCells c) 26)) hb1)
 obtain ⟨k0,k1,k2,k3,k4,k5,k6,k7,k8,k9⟩:=X1.out.all
 clear hb1
 go_wp2
 go_ret2
 exact ⟨w1.heap.size,rfl,B1.out.size,NewBlk.ln (heap_alloc_new _ _) B1.out.size,Below.allocN B1.out _⟩
set_option maxRecDepth 1000000 in
theorem onLine_any (F:Nat → Prop) (b:Nat) (c:Cfg) (p0 p1:PS) (st:Int) (w:World) (h:LnAt w F b c p0 p1) :
  Calls Tryz.prog 30 #[.pointer (some ⟨b,0,none⟩),.int .i64 st] w fun e w'=>e = .returned (.string ⟨(if st = 0 then p0.put else if st = 1 then p1.put else []).toArray⟩) ∧ Below w.heap.size w w':=by
 obtain ⟨F0,F1,s0,s1,_⟩:=h.sts
 have hlt:=h.lt
 have c14:w.cell? ⟨b,14,none⟩ = some (.string ⟨p0.put.toArray⟩):=s0.put
 have c29:w.cell? ⟨b,29,none⟩ = some (.string ⟨p1.put.toArray⟩):=s1.put
 clear s0 s1 h
 by_cases h0:st = 0
 ·subst h0
  rw [if_pos rfl]
  go_enter Tryz.func30,Tryz.ntmps30
  go_wp2_with fail
  refine (isStation_any 0 _).mono ?_
  rintro e w1 ⟨rfl,hw1⟩
  obtain rfl:=hw1.symm
  go_wp2
  go_ret
  exact ⟨rfl,Below.refl _ _⟩
 ·rw [if_neg h0]
  by_cases h1:st = 1
  ·subst h1
   rw [if_pos rfl]
   go_enter Tryz.func30,Tryz.ntmps30
   go_wp2_with fail
   refine (isStation_any 1 _).mono ?_
   rintro e w1 ⟨rfl,hw1⟩
   obtain rfl:=hw1.symm
   go_wp2
   go_ret
   exact ⟨rfl,Below.refl _ _⟩
  ·rw [if_neg h1]
   have HD:Hid (decide (st = 0 ∨ st = 1) = false):=by simp [Hid,h0,h1]
   clear h0 h1
   go_enter Tryz.func30,Tryz.ntmps30
   go_wp2_with fail
   refine (isStation_any st _).mono ?_
   rintro e w1 ⟨rfl,hw1⟩
   obtain rfl:=hw1.symm
   rw [HD.out]
   go_wp2
   go_ret
   exact ⟨rfl,Below.refl _ _⟩
def viewV (m q:Nat) (y:Bool):Value:=.agg #[.int .i64 m,.int .i64 q,.bool y]
def VwAt (w:World) (g:Nat) (v0 v1 v2:Value):Prop:=w.heap[g]? = some (.cells #[v0,v1,v2] 83 (0,0))
theorem VwAt.new (w:World) (v0 v1 v2:Value):VwAt (w.alloc (.cells #[v0,v1,v2] 83)) w.heap.size v0 v1 v2:=heap_alloc_new w _
theorem VwAt.newD (w:World) (v0 v1 v2:Value):VwAt (w.alloc (.cells #[v0,v1,v2] 83)).drew w.heap.size v0 v1 v2:=heap_alloc_new w _
theorem results_vw {fn:Func} {k:Tmp} (hf:fn.results = #[.cell k 83]) (tmps:Array Value) (w:World) (g:Nat) {v0 v1 v2:Value} (ht:tmps.getD k undef = .pointer (some ⟨g,0,none⟩)) (h:VwAt w g v0 v1 v2) :
  (results fn tmps).run Tryz.prog w = .ok (.agg #[v0,v1,v2]) w:=by
 have c0:w.cell? ⟨g,0,none⟩ = some v0:=by unfold VwAt at h; simp [World.cell?,h]
 have c1:w.cell? ⟨g,1,none⟩ = some v1:=by unfold VwAt at h; simp [World.cell?,h]
 have c2:w.cell? ⟨g,2,none⟩ = some v2:=by unfold VwAt at h; simp [World.cell?,h]
 simp only [Array.getD_eq_getD_getElem?] at ht
 simp [results,hf,ht,go_sem,c0,c1,c2]
set_option maxRecDepth 1000000 in
theorem look_one (F:Nat → Prop) (b o:Nat) (s:PS) (st:Int) (w:World) (h:StAt w F b o s) (hst:(st = 0 ∧ o = 10) ∨ (st = 1 ∧ o = 25)) :
  Calls Tryz.prog 28 #[.pointer (some ⟨b,0,none⟩),.int .i64 st] w fun e w'=>e = .returned (viewV s.mode s.q.length s.busy) ∧ Below w.heap.size w w':=by
 have hlt:=h.lt
 have hne:b ≠ w.heap.size:=by omega
 obtain ⟨v,c1,hv⟩:=h.que
 obtain ⟨a,cap,rfl⟩:=hv.form
 have c5:=h.mode
 have c3:=h.busy
 generalize s.q.length = L at *
 clear h hv
 rcases hst with ⟨rfl,rfl⟩ | ⟨rfl,rfl⟩
 ·simp only [Nat.reduceAdd] at c1 c3 c5
  go_enter Tryz.func28,Tryz.ntmps28
  go_wp2_with fail
  refine (isStation_any 0 _).mono ?_
  rintro e w1 ⟨rfl,hw1⟩
  subst hw1
  go_wp2
  go_region
  go_wp2
  (try simp only [Exit.inBlock,Exit.then])
  refine bodyPost_ret (results_vw rfl _ _ w.heap.size rfl (VwAt.newD w _ _ _)) rfl ?_
  exact ⟨rfl,((Below.refl _ _).alloc (Nat.le_refl _) _).drew⟩
 ·simp only [Nat.reduceAdd] at c1 c3 c5
  go_enter Tryz.func28,Tryz.ntmps28
  go_wp2_with fail
  refine (isStation_any 1 _).mono ?_
  rintro e w1 ⟨rfl,hw1⟩
  subst hw1
  go_wp2
  go_region
  go_wp2
  (try simp only [Exit.inBlock,Exit.then])
  refine bodyPost_ret (results_vw rfl _ _ w.heap.size rfl (VwAt.newD w _ _ _)) rfl ?_
  exact ⟨rfl,((Below.refl _ _).alloc (Nat.le_refl _) _).drew⟩
set_option maxRecDepth 1000000 in
theorem look_none (b:Nat) (st:Int) (w:World) (h0:¬ st = 0) (h1:¬ st = 1) :
  Calls Tryz.prog 28 #[.pointer (some ⟨b,0,none⟩),.int .i64 st] w fun e w'=>e = .returned (viewV 0 0 false) ∧ Below w.heap.size w w':=by
 have HD:Hid (decide (st = 0 ∨ st = 1) = false):=by simp [Hid,h0,h1]
 clear h0 h1
 go_enter Tryz.func28,Tryz.ntmps28
 go_wp2_with fail
 refine (isStation_any st _).mono ?_
 rintro e w1 ⟨rfl,hw1⟩
 subst hw1
 rw [HD.out]
 go_wp2
 (try simp only [Exit.inBlock,Exit.then])
 refine bodyPost_ret (results_vw rfl _ _ w.heap.size rfl (VwAt.new w _ _ _)) rfl ?_
 exact ⟨rfl,(Below.refl _ _).alloc (Nat.le_refl _) _⟩
/-- Look,whole. -/
theorem look_any (F:Nat → Prop) (b:Nat) (c:Cfg) (p0 p1:PS) (st:Int) (w:World) (h:LnAt w F b c p0 p1) :
  Calls Tryz.prog 28 #[.pointer (some ⟨b,0,none⟩),.int .i64 st] w fun e w'=>e = .returned (if st = 0 then viewV p0.mode p0.q.length p0.busy else if st = 1 then viewV p1.mode p1.q.length p1.busy else viewV 0 0 false) ∧ Below w.heap.size w w':=by
 obtain ⟨F0,F1,s0,s1,_⟩:=h.sts
 by_cases h0:st = 0
 ·rw [if_pos h0]; exact look_one F0 b 10 p0 st w s0 (Or.inl ⟨h0,rfl⟩)
 ·rw [if_neg h0]
  by_cases h1:st = 1
  ·rw [if_pos h1]; exact look_one F1 b 25 p1 st w s1 (Or.inr ⟨h1,rfl⟩)
  ·rw [if_neg h1]; exact look_none b st w h0 h1
end Go.Proofs.YtlbpjcphhocdkaaGreat
