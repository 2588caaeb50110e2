/- The document's New, Look and OnLine. -/
import Derived.Test.YtlbpjcphhocdkaaGreatQ03
import Derived.Test.YtlbpjcphhocdkaaGreatQ04
set_option maxRecDepth 1000000
set_option maxHeartbeats 16000000
namespace Go.Proofs.YtlbpjcphhocdkaaGreat
open Go.RowKit Go.Proofs.YtlbpjcphhocdkaaGreat.Mod Go.Proofs.YtlbpjcphhocdkaaGreat.Pst
theorem may_parts {c0 c1 c2 c3 c4 c5 c6 c7 c8 c9:Int} (h:mayI c0 c1 c2 c3 c4 c5 c6 c7 c8 c9 = true):(c0 = 0 ∨ c0 = 1) ∧ (1 ≤ c1 ∧ c1 ≤ 32) ∧ (1 ≤ c2 ∧ c2 ≤ 4) ∧ (3 ≤ c4 ∧ c4 ≤ 20) ∧ (4 ≤ c5 ∧ c5 ≤ 20) ∧ c4 < c5 ∧ (3 ≤ c6 ∧ c6 ≤ 20) ∧ (1 ≤ c3 ∧ c3 ≤ 8) ∧ (1 ≤ c8 ∧ c8 ≤ 7) ∧ (0 ≤ c9 ∧ c9 ≤ 7) ∧ ((c8 + 2) * c6 + 2 ≤ c7 ∧ c7 ≤ 255):=by
 unfold mayI at h
 simp only [Bool.and_eq_true,decide_eq_true_eq] at h
 obtain ⟨⟨⟨⟨⟨a0,a1⟩,a2⟩,⟨⟨a4,a5⟩,a45⟩,a6⟩,⟨a3,a8⟩,a9⟩,a7⟩:=h
 exact ⟨a0,a1,a2,a4,a5,a45,a6,a3,a8,a9,a7⟩
theorem may_of {c0 c1 c2 c3 c4 c5 c6 c7 c8 c9:Int} (h:(c0 = 0 ∨ c0 = 1) ∧ (1 ≤ c1 ∧ c1 ≤ 32) ∧ (1 ≤ c2 ∧ c2 ≤ 4) ∧ (3 ≤ c4 ∧ c4 ≤ 20) ∧ (4 ≤ c5 ∧ c5 ≤ 20) ∧ c4 < c5 ∧ (3 ≤ c6 ∧ c6 ≤ 20) ∧ (1 ≤ c3 ∧ c3 ≤ 8) ∧ (1 ≤ c8 ∧ c8 ≤ 7) ∧ (0 ≤ c9 ∧ c9 ≤ 7) ∧ ((c8 + 2) * c6 + 2 ≤ c7 ∧ c7 ≤ 255)):mayI c0 c1 c2 c3 c4 c5 c6 c7 c8 c9 = true:=by
 obtain ⟨a0,a1,a2,a4,a5,a45,a6,a3,a8,a9,a7⟩:=h
 unfold mayI
 simp only [Bool.and_eq_true,decide_eq_true_eq]
 exact ⟨⟨⟨⟨⟨a0,a1⟩,a2⟩,⟨⟨a4,a5⟩,a45⟩,a6⟩,⟨a3,a8⟩,a9⟩,a7⟩
theorem rmay_any (c0 c1 c2 c3 c4 c5 c6 c7 c8 c9:Int) (w:World) :
  Calls Tryz.prog 27 #[.agg #[.int .i64 c0,.int .i64 c1,.int .i64 c2,.int .i64 c3,.int .i64 c4,.int .i64 c5,.int .i64 c6,.int .i64 c7,.int .i64 c8,.int .i64 c9]] w fun e w'=>e = .returned (.bool (mayI c0 c1 c2 c3 c4 c5 c6 c7 c8 c9)) ∧ Below w.heap.size w w':=by
 by_cases ha:((c0 = 0 ∨ c0 = 1) ∧ (1 ≤ c1 ∧ c1 ≤ 32) ∧ (1 ≤ c2 ∧ c2 ≤ 4))
 ·by_cases hb:(3 ≤ c4 ∧ c4 ≤ 20) ∧ (4 ≤ c5 ∧ c5 ≤ 20) ∧ c4 < c5 ∧ (1 ≤ c3 ∧ c3 ≤ 8)
  ·by_cases hd:(3 ≤ c6 ∧ c6 ≤ 20) ∧ (1 ≤ c8 ∧ c8 ≤ 7) ∧ (0 ≤ c9 ∧ c9 ≤ 7)
   ·have e1:(c8 + 2) * c6 = c8 * c6 + 2 * c6:=Int.add_mul _ _ _
    have hm1:c8 * c6 ≤ 7 * 20:=Int.mul_le_mul (by omega) (by omega) (by omega) (by omega)
    have hm0:0 ≤ c8 * c6:=Int.mul_nonneg (by omega) (by omega)
    have HE:Hid (mayI c0 c1 c2 c3 c4 c5 c6 c7 c8 c9 = (decide (c8 * c6 + 2 * c6 + 2 ≤ c7) && decide (c7 ≤ 255))):=by
     unfold Hid
     rw [Bool.eq_iff_iff]
     simp only [Bool.and_eq_true,decide_eq_true_eq]
     constructor
     ·intro h; have:=may_parts h; omega
     ·intro h; exact may_of ⟨ha.1,ha.2.1,ha.2.2,hb.1,hb.2.1,hb.2.2.1,hd.1,hb.2.2.2,hd.2.1,hd.2.2,by omega⟩
    rw [HE.out]
    generalize hM:c8 * c6 = M at *
    have hMr:c8 * c6 = M:=hM
    clear hM HE e1
    obtain ⟨a0,a1,a2⟩:=ha
    obtain ⟨b4,b5,b45,b3⟩:=hb
    obtain ⟨d6,d8,d9⟩:=hd
    rcases a0 with rfl | rfl
    all_goals
     rcases (show (M + 2 * c6 + 2 ≤ c7 ∧ c7 ≤ 255) ∨ (M + 2 * c6 + 2 ≤ c7 ∧ ¬ c7 ≤ 255) ∨ ¬ M + 2 * c6 + 2 ≤ c7 by omega) with ⟨g1,g2⟩ | ⟨g1,g2⟩ | g1
     ·have HV:Hid ((decide (M + 2 * c6 + 2 ≤ c7) && decide (c7 ≤ 255)) = true):=by simp [Hid,g1,g2]
      rw [HV.out]
      go_enter Tryz.func27,Tryz.ntmps27
      go_wp2
      go_ret
      exact ⟨rfl,(Below.refl _ _).alloc (Nat.le_refl _) _⟩
     ·have HV:Hid ((decide (M + 2 * c6 + 2 ≤ c7) && decide (c7 ≤ 255)) = false):=by simp [Hid,g2]
      rw [HV.out]
      go_enter Tryz.func27,Tryz.ntmps27
      go_wp2
      go_ret
      exact ⟨rfl,(Below.refl _ _).alloc (Nat.le_refl _) _⟩
     ·have HV:Hid ((decide (M + 2 * c6 + 2 ≤ c7) && decide (c7 ≤ 255)) = false):=by simp [Hid,g1]
      rw [HV.out]
      go_enter Tryz.func27,Tryz.ntmps27
      go_wp2
      go_ret
      exact ⟨rfl,(Below.refl _ _).alloc (Nat.le_refl _) _⟩
   ·have HE:Hid (mayI c0 c1 c2 c3 c4 c5 c6 c7 c8 c9 = false):=by
     cases h:mayI c0 c1 c2 c3 c4 c5 c6 c7 c8 c9
     ·rfl
     ·exact absurd (by have:=may_parts h; omega) hd
    rw [HE.out]
    clear HE
    obtain ⟨a0,a1,a2⟩:=ha
    obtain ⟨b4,b5,b45,b3⟩:=hb
    have hd':c6 < 3 ∨ (¬ c6 < 3 ∧ 20 < c6) ∨ (¬ c6 < 3 ∧ ¬ 20 < c6 ∧ c8 < 1) ∨ (¬ c6 < 3 ∧ ¬ 20 < c6 ∧ ¬ c8 < 1 ∧ 7 < c8) ∨ (¬ c6 < 3 ∧ ¬ 20 < c6 ∧ ¬ c8 < 1 ∧ ¬ 7 < c8 ∧ c9 < 0) ∨ (¬ c6 < 3 ∧ ¬ 20 < c6 ∧ ¬ c8 < 1 ∧ ¬ 7 < c8 ∧ ¬ c9 < 0 ∧ 7 < c9):=by omega
    clear hd
    rcases a0 with rfl | rfl
    all_goals
     rcases hd' with h | ⟨h1,h⟩ | ⟨h1,h2,h⟩ | ⟨h1,h2,h3,h⟩ | ⟨h1,h2,h3,h4,h⟩ | ⟨h1,h2,h3,h4,h5,h⟩
     all_goals
      go_enter Tryz.func27,Tryz.ntmps27
      go_wp2
      go_ret
      exact ⟨rfl,(Below.refl _ _).alloc (Nat.le_refl _) _⟩
  ·have HE:Hid (mayI c0 c1 c2 c3 c4 c5 c6 c7 c8 c9 = false):=by
    cases h:mayI c0 c1 c2 c3 c4 c5 c6 c7 c8 c9
    ·rfl
    ·exact absurd (by have:=may_parts h; omega) hb
   rw [HE.out]
   clear HE
   obtain ⟨a0,a1,a2⟩:=ha
   have hb':c3 < 1 ∨ (¬ c3 < 1 ∧ 8 < c3) ∨ (¬ c3 < 1 ∧ ¬ 8 < c3 ∧ c4 < 3) ∨ (¬ c3 < 1 ∧ ¬ 8 < c3 ∧ ¬ c4 < 3 ∧ 20 < c4) ∨ (¬ c3 < 1 ∧ ¬ 8 < c3 ∧ ¬ c4 < 3 ∧ ¬ 20 < c4 ∧ c5 < 4) ∨ (¬ c3 < 1 ∧ ¬ 8 < c3 ∧ ¬ c4 < 3 ∧ ¬ 20 < c4 ∧ ¬ c5 < 4 ∧ 20 < c5) ∨ (¬ c3 < 1 ∧ ¬ 8 < c3 ∧ ¬ c4 < 3 ∧ ¬ 20 < c4 ∧ ¬ c5 < 4 ∧ ¬ 20 < c5 ∧ c5 ≤ c4):=by omega
   clear hb
   rcases a0 with rfl | rfl
   all_goals
    rcases hb' with h | ⟨h1,h⟩ | ⟨h1,h2,h⟩ | ⟨h1,h2,h3,h⟩ | ⟨h1,h2,h3,h4,h⟩ | ⟨h1,h2,h3,h4,h5,h⟩ | ⟨h1,h2,h3,h4,h5,h6,h⟩
    all_goals
     go_enter Tryz.func27,Tryz.ntmps27
     go_wp2
     go_ret
     exact ⟨rfl,(Below.refl _ _).alloc (Nat.le_refl _) _⟩
 ·have HE:Hid (mayI c0 c1 c2 c3 c4 c5 c6 c7 c8 c9 = false):=by
   cases h:mayI c0 c1 c2 c3 c4 c5 c6 c7 c8 c9
   ·rfl
   ·exact absurd (by have:=may_parts h; omega) ha
  rw [HE.out]
  clear HE
  have ha':(¬ c0 = 0 ∧ ¬ c0 = 1) ∨ ((c0 = 0 ∨ c0 = 1) ∧ c1 < 1) ∨ ((c0 = 0 ∨ c0 = 1) ∧ ¬ c1 < 1 ∧ 32 < c1) ∨ ((c0 = 0 ∨ c0 = 1) ∧ ¬ c1 < 1 ∧ ¬ 32 < c1 ∧ c2 < 1) ∨ ((c0 = 0 ∨ c0 = 1) ∧ ¬ c1 < 1 ∧ ¬ 32 < c1 ∧ ¬ c2 < 1 ∧ 4 < c2):=by omega
  clear ha
  rcases ha' with ⟨h1,h⟩ | ⟨rfl | rfl,h⟩ | ⟨rfl | rfl,h2,h⟩ | ⟨rfl | rfl,h2,h3,h⟩ | ⟨rfl | rfl,h2,h3,h4,h⟩
  all_goals
   go_enter Tryz.func27,Tryz.ntmps27
   go_wp2
   go_ret
   exact ⟨rfl,(Below.refl _ _).alloc (Nat.le_refl _) _⟩
end Go.Proofs.YtlbpjcphhocdkaaGreat
