/-What the harness does at an event, whole. What the harness sees behind a tick. -/
import Derived.Test.YtlbpjcphhocdkabGreatDoorGKa
namespace Go.Proofs.YtlbpjcphhocdkabGreatDoor
set_option maxRecDepth 1000000
open Go.RowKit Go.Proofs.YtlbpjcphhocdkabGreatDoor.Mod Go.Proofs.YtlbpjcphhocdkabGreatDoor.Pst Go.Proofs.YtlbpjcphhocdkabGreatDoor.Run

/-- The one set at its end. -/
theorem here_set {w D : World} {col : Nat → Nat} {S : Nat → Prop} {A : RA} {r : R} {st : Int} (hC : RunC D col A r) (hcol : ∀ g, col g ≠ 0 → S g ∧ g < w.heap.size) (hB : Below w.heap.size w D) (hS : S (sideB A st)) :
    RunAt (D.setCell ⟨sideB A st, 2, none⟩ (.bool true)) S A (setSide r st { sideOf r st with here := true }) ∧ Fr S w (D.setCell ⟨sideB A st, 2, none⟩ (.bool true)) := by
  refine ⟨⟨col, hC.setS st 2 (.bool true) { sideOf r st with here := true } (fun F hn hs => hs.here' hn true), fun g hg => ⟨(hcol g hg).1, ?_⟩⟩, Fr.setN (Fr.of_below hB) hS _ _⟩
  have := (hcol g hg).2; have := hB.size; simp; omega

set_option maxHeartbeats 4000000 in
theorem event_run (S : Nat → Prop) (A : RA) (r : R) (e : Ev) (w : World) (h : RunAt w S A r) (hok : evOk r e) (hb0 : r.a.want.length ≤ 1000000000000000) (hb1 : r.b.want.length ≤ 1000000000000000) :
    Calls Tryz.prog 29 #[.pointer (some ⟨A.rb, 0, none⟩), evV (some e)] w fun x w' => x = .returned (.bool true) ∧ RunAt w' S A (evR r e) ∧ Fr S w w' := by
  have hbel := (Below.refl w.heap.size w).alloc (Nat.le_refl _) (.cells #[.int .i64 e.kind, .int .i64 e.station, .int .i64 e.number, .string ⟨e.msg.head.toArray⟩, .string ⟨e.msg.text.toArray⟩, .bool e.msg.clear] 38)
  have hlen : ∀ st, (sideOf r st).want.length ≤ 1000000000000000 := fun st => by unfold sideOf; split <;> assumption
  have HB := hide hbel
  have HH := hide h
  have HE := hide (box_ev w e)
  obtain ⟨hst, hk⟩ := hok
  have hrb := h.lt.1
  rcases hk with ⟨hk, hto⟩ | ⟨hk, hnum, hmsg⟩
  · have HTo := hide hto
    have HR : Hid (evR r e = toldR r e) := by unfold Hid evR; rw [if_neg (by omega)]
    have HLn := hide (hlen e.station)
    clear hto hlen
    obtain ⟨kd, st, n, m⟩ := e
    simp only at *
    rw [HR.out]
    unfold evV
    rcases hst with rfl | rfl <;> rcases hk with rfl | rfl
    all_goals
      simp only [Int.cast_ofNat_Int]
      go_enter Tryz.func29, Tryz.ntmps29
      go_wp2_with fail
      refine (told_run S A r _ _ (HH.out.below HB.out) (by simp) HTo.out HLn.out).mono ?_
      rintro x w2 ⟨rfl, h2, hf2⟩
      have H2 := hide h2
      have F2 := hide ((Fr.of_below HB.out).trans hf2 (fun _ _ k => k))
      clear h2 hf2
      go_wp2
      go_ret
      exact ⟨rfl, H2.out, F2.out⟩
  · have hown := h.own
    obtain ⟨col, hc, hcol⟩ := h
    have hc' := hc.below (fun g hg => (hcol g hg).2) hbel
    have HCOL := hide hcol
    have HOS : Hid (S (sideB A (1 - (e.station : Int)))) := by
      unfold Hid sideB
      split
      · exact hown.2.2.1
      · exact hown.2.2.2
    have HL := hide (hlen (1 - (e.station : Int)))
    have HR0 : Hid (r.wild = false → setSide r (1 - (e.station : Int)) { sideOf r (1 - (e.station : Int)) with here := true } = evR r e) := by intro k; unfold evR; rw [if_pos hk, k]; rfl
    have HR1 : Hid (r.wild = true → r = evR r e) := by intro k; unfold evR; rw [if_pos hk, k]; rfl
    generalize evR r e = rr at *
    have HMsg := hide hmsg
    obtain ⟨kd, st, n, m⟩ := e
    simp only at *
    subst hk hnum
    clear hmsg hlen hown hcol hc
    unfold evV
    simp only [Int.cast_ofNat_Int] at HB HE hc' hbel ⊢
    rcases hst with rfl | rfl
    · simp only [Int.cast_ofNat_Int, Int.sub_zero] at HB HE hc' hbel HL HMsg HOS HR0 ⊢
      go_enter Tryz.func29, Tryz.ntmps29
      go_wp2_with fail
      generalize hW : w.alloc (.cells #[.int .i64 1, _, _, _, _, _] _) = W at *
      obtain ⟨_, c11, c12, _, c14, _, _, _, _, _, _⟩ := hc'.cells
      refine (side_any A 1 _ c11 c12).mono ?_
      rintro x w1 ⟨rfl, hw1⟩
      obtain rfl := hw1.symm
      cases hwi : r.wild
      · obtain ⟨m1, m2, m3⟩ := HMsg.out hwi
        obtain ⟨hs, hsc⟩ := hc'.side 1
        obtain ⟨⟨a, cap, s0, hQ⟩, s1, s2, s3, sz⟩ := hs.all
        have hne0 : (sideOf r 1).want ≠ [] := fun e => by rw [e] at m2; simp at m2
        obtain ⟨q, cap2, eq, hcap, _, hql, hqc⟩ := hQ.some hne0
        rw [eq] at s0
        obtain ⟨q0, q1, q2⟩ := hqc _ m2
        rw [← m3] at q0 q1 q2
        have z2 := sz 2
        rw [m1] at s2
        rw [hwi] at c14
        have HC := hide hc'
        have HR := hide (HR0.out hwi)
        have E0 := fun n => hide (here_set (st := 1) (HC.out.keep (w' := W.drewN n) (Nat.le_refl _) (fun _ _ _ => rfl)) HCOL.out (below_drewN HB.out n) HOS.out)
        obtain ⟨e0, e1, e2, e3, e4, e5⟩ := HE.out.cell
        have hlt2 := hs.lt
        have hqq := eqMsg_same ⟨m.head.toArray⟩ ⟨m.text.toArray⟩ m.clear
        have hm := guardMsg
        have hl := HL.out
        simp only [HR.out] at E0
        clear hc' hs hsc sz hQ eq hqc hne0 HL HMsg m1 m3 HC HE hbel hW hwi HH hb0 hb1 HR HR0 HR1
        generalize sideOf r 1 = sd at *
        generalize sideB A 1 = g at *
        have dl : decide (sd.want.length ≤ sd.told) = false := by simp only [decide_eq_false_iff_not]; omega
        have lt : (sd.told : Int) < (sd.want.length : Int) := by omega
        have lt' : ¬ (sd.want.length : Int) ≤ (sd.told : Int) := by omega
        go_wp2
        go_quiet (fail)
        go_wp2
        go_ret
        exact ⟨rfl, (E0 _).out⟩
      · have HK : Hid (RunAt W S A r ∧ Fr S w W) := ⟨HH.out.below HB.out, Fr.of_below HB.out⟩
        rw [HR1.out hwi] at HK
        obtain ⟨e0, e1, e2, e3, e4, e5⟩ := HE.out.cell
        rw [hwi] at c14
        clear hc' HE hbel hW hwi HH HMsg HR0 HR1
        go_wp2
        go_ret
        exact ⟨rfl, HK.out⟩
    · simp only [Int.cast_ofNat_Int, Int.sub_self] at HB HE hc' hbel HL HMsg HOS HR0 ⊢
      go_enter Tryz.func29, Tryz.ntmps29
      go_wp2_with fail
      generalize hW : w.alloc (.cells #[.int .i64 1, _, _, _, _, _] _) = W at *
      obtain ⟨_, c11, c12, _, c14, _, _, _, _, _, _⟩ := hc'.cells
      refine (side_any A 0 _ c11 c12).mono ?_
      rintro x w1 ⟨rfl, hw1⟩
      obtain rfl := hw1.symm
      cases hwi : r.wild
      · obtain ⟨m1, m2, m3⟩ := HMsg.out hwi
        obtain ⟨hs, hsc⟩ := hc'.side 0
        obtain ⟨⟨a, cap, s0, hQ⟩, s1, s2, s3, sz⟩ := hs.all
        have hne0 : (sideOf r 0).want ≠ [] := fun e => by rw [e] at m2; simp at m2
        obtain ⟨q, cap2, eq, hcap, _, hql, hqc⟩ := hQ.some hne0
        rw [eq] at s0
        obtain ⟨q0, q1, q2⟩ := hqc _ m2
        rw [← m3] at q0 q1 q2
        have z2 := sz 2
        rw [m1] at s2
        rw [hwi] at c14
        have HC := hide hc'
        have HR := hide (HR0.out hwi)
        have E0 := fun n => hide (here_set (st := 0) (HC.out.keep (w' := W.drewN n) (Nat.le_refl _) (fun _ _ _ => rfl)) HCOL.out (below_drewN HB.out n) HOS.out)
        obtain ⟨e0, e1, e2, e3, e4, e5⟩ := HE.out.cell
        have hlt2 := hs.lt
        have hqq := eqMsg_same ⟨m.head.toArray⟩ ⟨m.text.toArray⟩ m.clear
        have hm := guardMsg
        have hl := HL.out
        simp only [HR.out] at E0
        clear hc' hs hsc sz hQ eq hqc hne0 HL HMsg m1 m3 HC HE hbel hW hwi HH hb0 hb1 HR HR0 HR1
        generalize sideOf r 0 = sd at *
        generalize sideB A 0 = g at *
        have dl : decide (sd.want.length ≤ sd.told) = false := by simp only [decide_eq_false_iff_not]; omega
        have lt : (sd.told : Int) < (sd.want.length : Int) := by omega
        have lt' : ¬ (sd.want.length : Int) ≤ (sd.told : Int) := by omega
        go_wp2
        go_quiet (fail)
        go_wp2
        go_ret
        exact ⟨rfl, (E0 _).out⟩
      · have HK : Hid (RunAt W S A r ∧ Fr S w W) := ⟨HH.out.below HB.out, Fr.of_below HB.out⟩
        rw [HR1.out hwi] at HK
        obtain ⟨e0, e1, e2, e3, e4, e5⟩ := HE.out.cell
        rw [hwi] at c14
        clear hc' HE hbel hW hwi HH HMsg HR0 HR1
        go_wp2
        go_ret
        exact ⟨rfl, HK.out⟩

end Go.Proofs.YtlbpjcphhocdkabGreatDoor

namespace Go.Proofs.YtlbpjcphhocdkabGreatDoor
set_option maxRecDepth 1000000
open Go.RowKit Go.Proofs.YtlbpjcphhocdkabGreatDoor.Mod Go.Proofs.YtlbpjcphhocdkabGreatDoor.Pst Go.Proofs.YtlbpjcphhocdkabGreatDoor.Run

def Tw1 (A : RA) (a : Act) : Prop := a.defers = [] ∧ a.tmps = List.toArray (.pointer (some ⟨A.rb, 0, none⟩) :: a.tmps.getD 1 undef :: a.tmps.getD 2 undef :: a.tmps.getD 3 undef :: a.tmps.getD 4 undef :: a.tmps.getD 5 undef :: a.tmps.getD 6 undef :: a.tmps.getD 7 undef :: a.tmps.getD 8 undef :: a.tmps.getD 9 undef :: a.tmps.getD 10 undef :: a.tmps.getD 11 undef :: a.tmps.getD 12 undef :: a.tmps.getD 13 undef :: a.tmps.getD 14 undef :: a.tmps.getD 15 undef :: a.tmps.getD 16 undef :: a.tmps.getD 17 undef :: a.tmps.getD 18 undef :: a.tmps.getD 19 undef :: a.tmps.getD 20 undef :: a.tmps.getD 21 undef :: a.tmps.getD 22 undef :: a.tmps.getD 23 undef :: a.tmps.getD 24 undef :: a.tmps.getD 25 undef :: a.tmps.getD 26 undef :: a.tmps.getD 27 undef :: a.tmps.getD 28 undef :: a.tmps.getD 29 undef :: a.tmps.getD 30 undef :: a.tmps.getD 31 undef :: a.tmps.getD 32 undef :: a.tmps.getD 33 undef :: a.tmps.getD 34 undef :: a.tmps.getD 35 undef :: a.tmps.getD 36 undef :: a.tmps.getD 37 undef :: a.tmps.getD 38 undef :: a.tmps.getD 39 undef :: a.tmps.getD 40 undef :: a.tmps.getD 41 undef :: a.tmps.getD 42 undef :: a.tmps.getD 43 undef :: a.tmps.getD 44 undef :: a.tmps.getD 45 undef :: a.tmps.getD 46 undef :: a.tmps.getD 47 undef :: a.tmps.getD 48 undef :: a.tmps.getD 49 undef :: a.tmps.getD 50 undef :: a.tmps.getD 51 undef :: a.tmps.getD 52 undef :: a.tmps.getD 53 undef :: a.tmps.getD 54 undef :: a.tmps.getD 55 undef :: a.tmps.getD 56 undef :: a.tmps.getD 57 undef :: a.tmps.getD 58 undef :: a.tmps.getD 59 undef :: a.tmps.getD 60 undef :: a.tmps.getD 61 undef :: a.tmps.getD 62 undef :: a.tmps.getD 63 undef :: a.tmps.getD 64 undef :: a.tmps.getD 65 undef :: a.tmps.getD 66 undef :: a.tmps.getD 67 undef :: a.tmps.getD 68 undef :: a.tmps.getD 69 undef :: a.tmps.getD 70 undef :: a.tmps.getD 71 undef :: a.tmps.getD 72 undef :: a.tmps.getD 73 undef :: a.tmps.getD 74 undef :: a.tmps.getD 75 undef :: a.tmps.getD 76 undef :: a.tmps.getD 77 undef :: a.tmps.getD 78 undef :: a.tmps.getD 79 undef :: a.tmps.getD 80 undef :: a.tmps.getD 81 undef :: a.tmps.getD 82 undef :: a.tmps.getD 83 undef :: a.tmps.getD 84 undef :: a.tmps.getD 85 undef :: a.tmps.getD 86 undef :: a.tmps.getD 87 undef :: a.tmps.getD 88 undef :: a.tmps.getD 89 undef :: a.tmps.getD 90 undef :: a.tmps.getD 91 undef :: a.tmps.getD 92 undef :: a.tmps.getD 93 undef :: a.tmps.getD 94 undef :: a.tmps.getD 95 undef :: a.tmps.getD 96 undef :: a.tmps.getD 97 undef :: a.tmps.getD 98 undef :: a.tmps.getD 99 undef :: a.tmps.getD 100 undef :: a.tmps.getD 101 undef :: a.tmps.getD 102 undef :: a.tmps.getD 103 undef :: a.tmps.getD 104 undef :: a.tmps.getD 105 undef :: a.tmps.getD 106 undef :: [])
theorem Tw1.use {A : RA} {a : Act} (h : Tw1 A a) : ∃ u : Nat → Value, a = { tmps := List.toArray (.pointer (some ⟨A.rb, 0, none⟩) :: u 1 :: u 2 :: u 3 :: u 4 :: u 5 :: u 6 :: u 7 :: u 8 :: u 9 :: u 10 :: u 11 :: u 12 :: u 13 :: u 14 :: u 15 :: u 16 :: u 17 :: u 18 :: u 19 :: u 20 :: u 21 :: u 22 :: u 23 :: u 24 :: u 25 :: u 26 :: u 27 :: u 28 :: u 29 :: u 30 :: u 31 :: u 32 :: u 33 :: u 34 :: u 35 :: u 36 :: u 37 :: u 38 :: u 39 :: u 40 :: u 41 :: u 42 :: u 43 :: u 44 :: u 45 :: u 46 :: u 47 :: u 48 :: u 49 :: u 50 :: u 51 :: u 52 :: u 53 :: u 54 :: u 55 :: u 56 :: u 57 :: u 58 :: u 59 :: u 60 :: u 61 :: u 62 :: u 63 :: u 64 :: u 65 :: u 66 :: u 67 :: u 68 :: u 69 :: u 70 :: u 71 :: u 72 :: u 73 :: u 74 :: u 75 :: u 76 :: u 77 :: u 78 :: u 79 :: u 80 :: u 81 :: u 82 :: u 83 :: u 84 :: u 85 :: u 86 :: u 87 :: u 88 :: u 89 :: u 90 :: u 91 :: u 92 :: u 93 :: u 94 :: u 95 :: u 96 :: u 97 :: u 98 :: u 99 :: u 100 :: u 101 :: u 102 :: u 103 :: u 104 :: u 105 :: u 106 :: []), defers := [] } := ⟨fun i => a.tmps.getD i undef, by obtain ⟨h1, h2⟩ := h; cases a; simp only at h1 h2; subst h1; exact congrArg (fun t => ({ tmps := t, defers := [] } : Act)) h2⟩
def Tw2 (A : RA) (g0 : Nat) (g1 : Nat) (a : Act) : Prop := a.defers = [] ∧ a.tmps = List.toArray (.pointer (some ⟨A.rb, 0, none⟩) :: a.tmps.getD 1 undef :: a.tmps.getD 2 undef :: a.tmps.getD 3 undef :: .pointer (some ⟨g0, 0, none⟩) :: .pointer (some ⟨g1, 0, none⟩) :: a.tmps.getD 6 undef :: a.tmps.getD 7 undef :: a.tmps.getD 8 undef :: a.tmps.getD 9 undef :: a.tmps.getD 10 undef :: a.tmps.getD 11 undef :: a.tmps.getD 12 undef :: a.tmps.getD 13 undef :: a.tmps.getD 14 undef :: a.tmps.getD 15 undef :: a.tmps.getD 16 undef :: a.tmps.getD 17 undef :: a.tmps.getD 18 undef :: a.tmps.getD 19 undef :: a.tmps.getD 20 undef :: a.tmps.getD 21 undef :: a.tmps.getD 22 undef :: a.tmps.getD 23 undef :: a.tmps.getD 24 undef :: a.tmps.getD 25 undef :: a.tmps.getD 26 undef :: a.tmps.getD 27 undef :: a.tmps.getD 28 undef :: a.tmps.getD 29 undef :: a.tmps.getD 30 undef :: a.tmps.getD 31 undef :: a.tmps.getD 32 undef :: a.tmps.getD 33 undef :: a.tmps.getD 34 undef :: a.tmps.getD 35 undef :: a.tmps.getD 36 undef :: a.tmps.getD 37 undef :: a.tmps.getD 38 undef :: a.tmps.getD 39 undef :: a.tmps.getD 40 undef :: a.tmps.getD 41 undef :: a.tmps.getD 42 undef :: a.tmps.getD 43 undef :: a.tmps.getD 44 undef :: a.tmps.getD 45 undef :: a.tmps.getD 46 undef :: a.tmps.getD 47 undef :: a.tmps.getD 48 undef :: a.tmps.getD 49 undef :: a.tmps.getD 50 undef :: a.tmps.getD 51 undef :: a.tmps.getD 52 undef :: a.tmps.getD 53 undef :: a.tmps.getD 54 undef :: a.tmps.getD 55 undef :: a.tmps.getD 56 undef :: a.tmps.getD 57 undef :: a.tmps.getD 58 undef :: a.tmps.getD 59 undef :: a.tmps.getD 60 undef :: a.tmps.getD 61 undef :: a.tmps.getD 62 undef :: a.tmps.getD 63 undef :: a.tmps.getD 64 undef :: a.tmps.getD 65 undef :: a.tmps.getD 66 undef :: a.tmps.getD 67 undef :: a.tmps.getD 68 undef :: a.tmps.getD 69 undef :: a.tmps.getD 70 undef :: a.tmps.getD 71 undef :: a.tmps.getD 72 undef :: a.tmps.getD 73 undef :: a.tmps.getD 74 undef :: a.tmps.getD 75 undef :: a.tmps.getD 76 undef :: a.tmps.getD 77 undef :: a.tmps.getD 78 undef :: a.tmps.getD 79 undef :: a.tmps.getD 80 undef :: a.tmps.getD 81 undef :: a.tmps.getD 82 undef :: a.tmps.getD 83 undef :: a.tmps.getD 84 undef :: a.tmps.getD 85 undef :: a.tmps.getD 86 undef :: a.tmps.getD 87 undef :: a.tmps.getD 88 undef :: a.tmps.getD 89 undef :: a.tmps.getD 90 undef :: a.tmps.getD 91 undef :: a.tmps.getD 92 undef :: a.tmps.getD 93 undef :: a.tmps.getD 94 undef :: a.tmps.getD 95 undef :: a.tmps.getD 96 undef :: a.tmps.getD 97 undef :: a.tmps.getD 98 undef :: a.tmps.getD 99 undef :: a.tmps.getD 100 undef :: a.tmps.getD 101 undef :: a.tmps.getD 102 undef :: a.tmps.getD 103 undef :: a.tmps.getD 104 undef :: a.tmps.getD 105 undef :: a.tmps.getD 106 undef :: [])
theorem Tw2.use {A : RA} {g0 : Nat} {g1 : Nat} {a : Act} (h : Tw2 A g0 g1 a) : ∃ u : Nat → Value, a = { tmps := List.toArray (.pointer (some ⟨A.rb, 0, none⟩) :: u 1 :: u 2 :: u 3 :: .pointer (some ⟨g0, 0, none⟩) :: .pointer (some ⟨g1, 0, none⟩) :: u 6 :: u 7 :: u 8 :: u 9 :: u 10 :: u 11 :: u 12 :: u 13 :: u 14 :: u 15 :: u 16 :: u 17 :: u 18 :: u 19 :: u 20 :: u 21 :: u 22 :: u 23 :: u 24 :: u 25 :: u 26 :: u 27 :: u 28 :: u 29 :: u 30 :: u 31 :: u 32 :: u 33 :: u 34 :: u 35 :: u 36 :: u 37 :: u 38 :: u 39 :: u 40 :: u 41 :: u 42 :: u 43 :: u 44 :: u 45 :: u 46 :: u 47 :: u 48 :: u 49 :: u 50 :: u 51 :: u 52 :: u 53 :: u 54 :: u 55 :: u 56 :: u 57 :: u 58 :: u 59 :: u 60 :: u 61 :: u 62 :: u 63 :: u 64 :: u 65 :: u 66 :: u 67 :: u 68 :: u 69 :: u 70 :: u 71 :: u 72 :: u 73 :: u 74 :: u 75 :: u 76 :: u 77 :: u 78 :: u 79 :: u 80 :: u 81 :: u 82 :: u 83 :: u 84 :: u 85 :: u 86 :: u 87 :: u 88 :: u 89 :: u 90 :: u 91 :: u 92 :: u 93 :: u 94 :: u 95 :: u 96 :: u 97 :: u 98 :: u 99 :: u 100 :: u 101 :: u 102 :: u 103 :: u 104 :: u 105 :: u 106 :: []), defers := [] } := ⟨fun i => a.tmps.getD i undef, by obtain ⟨h1, h2⟩ := h; cases a; simp only at h1 h2; subst h1; exact congrArg (fun t => ({ tmps := t, defers := [] } : Act)) h2⟩

theorem onLine_run (S : Nat → Prop) (A : RA) (r : R) (st : Int) (w : World) (h : RunAt w S A r) :
    Calls Tryz.prog 18 #[.pointer (some ⟨A.xb, 0, none⟩), .int .i64 st] w fun e w' => e = .returned (.string ⟨(onOf r.x st).toArray⟩) ∧ Below w.heap.size w w' := by
  obtain ⟨F, hl, _⟩ := h.line
  exact onLine_line F A.xb r.x st w hl
theorem look_run (S : Nat → Prop) (A : RA) (r : R) (st : Int) (w : World) (h : RunAt w S A r) :
    Calls Tryz.prog 19 #[.pointer (some ⟨A.xb, 0, none⟩), .int .i64 st] w fun e w' => e = .returned (lookOf r.x st) ∧ Below w.heap.size w w' := by
  obtain ⟨F, hl, _⟩ := h.line
  exact look_line F A.xb r.x st w hl
theorem RunAt.cells {w : World} {S : Nat → Prop} {A : RA} {r : R} (h : RunAt w S A r) :
    w.cell? ⟨A.rb, 0, none⟩ = some (.pointer (some ⟨A.xb, 0, none⟩)) ∧ w.cell? ⟨A.rb, 11, none⟩ = some (.pointer (some ⟨A.ab, 0, none⟩)) ∧ w.cell? ⟨A.rb, 12, none⟩ = some (.pointer (some ⟨A.bb, 0, none⟩)) ∧ w.cell? ⟨A.rb, 13, none⟩ = some (.bool r.hit) ∧ w.cell? ⟨A.rb, 14, none⟩ = some (.bool r.wild) ∧ w.cell? ⟨A.rb, 15, none⟩ = some (.bool r.calm) ∧ w.cell? ⟨A.rb, 16, none⟩ = some (.bool r.ok) ∧ w.cell? ⟨A.rb, 17, none⟩ = some (.bool r.fits) ∧ w.cell? ⟨A.rb, 18, none⟩ = some (.bool r.token) ∧ w.cell? ⟨A.rb, 19, none⟩ = some (.bool r.fresh) ∧ ∀ j, w.frozen? ⟨A.rb, j, none⟩ = false := by
  obtain ⟨col, h, _⟩ := h
  exact h.cells
theorem RunAt.sides {w : World} {S : Nat → Prop} {A : RA} {r : R} (h : RunAt w S A r) :
    (∃ a cap, w.cell? ⟨A.ab, 0, none⟩ = some (.slice a r.a.want.length cap)) ∧ w.cell? ⟨A.ab, 1, none⟩ = some (.int .i64 r.a.told) ∧ (∃ a cap, w.cell? ⟨A.bb, 0, none⟩ = some (.slice a r.b.want.length cap)) ∧ w.cell? ⟨A.bb, 1, none⟩ = some (.int .i64 r.b.told) := by
  obtain ⟨col, h, _⟩ := h
  obtain ⟨⟨a, cap, s0, _⟩, s1, _⟩ := h.sa.all
  obtain ⟨⟨a', cap', t0, _⟩, t1, _⟩ := h.sb.all
  exact ⟨⟨a, cap, s0⟩, s1, ⟨a', cap', t0⟩, t1⟩
/-- A flag set. -/
theorem RunAt.setFlag {w W : World} {S : Nat → Prop} {A : RA} {r : R} (h : RunAt W S A r) (hf : Fr S w W) (k : Nat) (v : Value) (r' : R) (hx : r'.x = r.x) (ha : r'.a = r.a) (hb : r'.b = r.b) (hr : (rcells A r).setIfInBounds k v = rcells A r') : RunAt (W.setCell ⟨A.rb, k, none⟩ v) S A r' ∧ Fr S w (W.setCell ⟨A.rb, k, none⟩ v) := by
  have ho := h.own.1
  obtain ⟨col, hc, hcol⟩ := h
  exact ⟨⟨col, hc.set k v r' hx ha hb hr, fun g hg => ⟨(hcol g hg).1, by simpa using (hcol g hg).2⟩⟩, hf.setN ho _ _⟩

/-- What is behind the first test. -/
def Wat (w : World) (S : Nat → Prop) (A : RA) (r' : R) (T : Act → Prop) (a : Act) (W : World) : Prop := T a ∧ RunAt W S A r' ∧ Fr S w W

def tok1 (x : Ln) : Bool := !(decide (x.on0 ≠ [] ∧ x.on1 ≠ []) && decide (x.on0 ≠ bidL ∨ x.on1 ≠ bidL))
def tok2 (x : Ln) : Bool := !(decide (x.s0.mode = 2 ∧ x.s1.mode ≠ 3) || decide (x.s1.mode = 2 ∧ x.s0.mode ≠ 3))
theorem tok_eq (x : Ln) : tokOk x = (tok1 x && tok2 x) := rfl

theorem bytes_empty (l : List UInt8) (h : l = []) {s : ByteArray} (hs : (⟨l.toArray⟩ : ByteArray) = s) : s.toList = [] := by subst h hs; rw [ByteArray.toList_eq]
theorem bytes_some (l : List UInt8) (h : l ≠ []) {s : ByteArray} (hs : (⟨l.toArray⟩ : ByteArray) = s) : s.toList.isEmpty = false ∧ ¬ s.toList = [] := by
  subst hs
  rw [ByteArray.toList_eq]
  simp only [List.isEmpty_eq_false_iff]
  exact ⟨by simpa using h, by simpa using h⟩
theorem bytes_bid (l : List UInt8) (h : l = bidL) {s : ByteArray} (hs : (⟨l.toArray⟩ : ByteArray) = s) : s.toList = [22, 22, 4, 5, 255] := by subst h hs; rw [ByteArray.toList_eq]; rfl
theorem bytes_nobid (l : List UInt8) (h : l ≠ bidL) {s : ByteArray} (hs : (⟨l.toArray⟩ : ByteArray) = s) : (s.toList == [22, 22, 4, 5, 255]) = false ∧ ¬ s.toList = [22, 22, 4, 5, 255] := by
  subst hs
  rw [ByteArray.toList_eq]
  have : ¬ l = [22, 22, 4, 5, 255] := h
  simpa using this
theorem VwAt.cell {w : World} {g : Nat} {v0 v1 v2 : Value} (h : VwAt w g v0 v1 v2) : w.cell? ⟨g, 0, none⟩ = some v0 ∧ w.cell? ⟨g, 1, none⟩ = some v1 ∧ w.cell? ⟨g, 2, none⟩ = some v2 := by unfold VwAt at h; simp [World.cell?, h]
theorem VwAt.set6 {w : World} {g b : Nat} {v0 v1 v2 : Value} (h : VwAt w g v0 v1 v2) (hn : b ≠ g) (k : Nat) (v : Value) : VwAt (w.setCell ⟨b, k, none⟩ v) g v0 v1 v2 := (Below.heap_setCell _ _ _ _ (fun e => hn e.symm)).trans h
/-- What is behind the second. -/
def Wa2 (w : World) (S : Nat → Prop) (A : RA) (r' : R) (x : Ln) (g0 g1 : Nat) (T : Act → Prop) (a : Act) (W : World) : Prop := T a ∧ RunAt W S A r' ∧ Fr S w W ∧ VwAt W g0 (.int .i64 x.s0.mode) (.int .i64 x.s0.queue.length) (.bool x.s0.busy) ∧ VwAt W g1 (.int .i64 x.s1.mode) (.int .i64 x.s1.queue.length) (.bool x.s1.busy)

set_option maxHeartbeats 4000000 in
theorem watch_run (S : Nat → Prop) (A : RA) (r : R) (w : World) (h : RunAt w S A r) (hf : fitOk r) (hb0 : r.a.want.length ≤ 1000000000000000) (hb1 : r.b.want.length ≤ 1000000000000000) :
    Calls Tryz.prog 30 #[.pointer (some ⟨A.rb, 0, none⟩)] w fun x w' => x = .returned (.tuple #[]) ∧ RunAt w' S A { r with token := r.token && tokOk r.x } ∧ Fr S w w' := by
  obtain ⟨c0, _⟩ := h.cells
  have HH := hide h
  have hrb := h.lt.1
  have HRR : Hid (({ r with token := r.token && tokOk r.x } : R) = { r with token := (r.token && tok1 r.x) && tok2 r.x }) := by rw [tok_eq, Bool.and_assoc]; exact rfl
  rw [HRR.out]
  clear h
  go_enter Tryz.func30, Tryz.ntmps30
  go_wp2_with fail
  refine (onLine_run S A r 0 _ HH.out).mono ?_
  rintro e w1 ⟨rfl, hb1'⟩
  have HB1 := hide hb1'
  have c0' : w1.cell? ⟨A.rb, 0, none⟩ = some (.pointer (some ⟨A.xb, 0, none⟩)) := (hb1'.cell hrb).trans c0
  clear hb1'
  go_wp2_with fail
  refine (onLine_run S A r 1 _ (HH.out.below HB1.out)).mono ?_
  rintro e w2 ⟨rfl, hb2'⟩
  have HB2 := hide (below_step HB1.out hb2')
  have h2 := HH.out.below HB2.out
  obtain ⟨c0'', _, _, _, _, _, _, _, c18, _, fz⟩ := h2.cells
  have f18 := fz 18
  have H2 := hide h2
  have HF := hide (Fr.of_below (F := S) HB2.out)
  clear hb2' c0 c0' h2 fz
  have hrb2 : A.rb < w2.heap.size := by have := HB2.out.size; omega
  dsimp only
  go_step
  go_step
  go_step
  go_step
  go_step
  go_step
  go_step
  go_step
  refine code_via (Wat w S A { r with token := r.token && tok1 r.x } (Tw1 A)) ?_ ?_
  · have e0 : onOf r.x 0 = r.x.on0 := rfl
    have e1 : onOf r.x 1 = r.x.on1 := rfl
    rw [e0, e1]
    clear e0 e1
    generalize hs0 : (⟨r.x.on0.toArray⟩ : ByteArray) = s0
    generalize hs1 : (⟨r.x.on1.toArray⟩ : ByteArray) = s1
    by_cases h0 : r.x.on0 = []
    · have T1 : Hid (({ r with token := r.token && tok1 r.x } : R) = r) := by unfold Hid tok1; rw [h0]; simp
      rw [T1.out]
      have k0 := bytes_empty _ h0 hs0
      clear h0 hs0 hs1
      go_wp2
      (try simp only [Exit.inBlock, Exit.then])
      exact ⟨⟨rfl, rfl⟩, H2.out, HF.out⟩
    · obtain ⟨k0, k0'⟩ := bytes_some _ h0 hs0
      by_cases h1 : r.x.on1 = []
      · have T1 : Hid (({ r with token := r.token && tok1 r.x } : R) = r) := by unfold Hid tok1; rw [h1]; simp
        rw [T1.out]
        have k1 := bytes_empty _ h1 hs1
        clear h0 h1 hs0 hs1
        go_wp2
        (try simp only [Exit.inBlock, Exit.then])
        exact ⟨⟨rfl, rfl⟩, H2.out, HF.out⟩
      · obtain ⟨k1, k1'⟩ := bytes_some _ h1 hs1
        by_cases b0 : r.x.on0 = bidL
        · have j0 := bytes_bid _ b0 hs0
          by_cases b1 : r.x.on1 = bidL
          · have T1 : Hid (({ r with token := r.token && tok1 r.x } : R) = r) := by unfold Hid tok1; rw [b0, b1]; simp
            rw [T1.out]
            have j1 := bytes_bid _ b1 hs1
            clear h0 h1 b0 b1 hs0 hs1
            go_wp2
            (try simp only [Exit.inBlock, Exit.then])
            exact ⟨⟨rfl, rfl⟩, H2.out, HF.out⟩
          · have T1 : Hid (({ r with token := r.token && tok1 r.x } : R) = { r with token := false }) := by unfold Hid tok1; simp [h0, h1, b1]
            rw [T1.out]
            obtain ⟨j1, j1'⟩ := bytes_nobid _ b1 hs1
            clear h0 h1 b0 b1 hs0 hs1
            go_wp2
            (try simp only [Exit.inBlock, Exit.then])
            exact ⟨⟨rfl, rfl⟩, H2.out.setFlag HF.out 18 (.bool false) { r with token := false } rfl rfl rfl rfl⟩
        · have T1 : Hid (({ r with token := r.token && tok1 r.x } : R) = { r with token := false }) := by unfold Hid tok1; simp [h0, h1, b0]
          rw [T1.out]
          obtain ⟨j0, j0'⟩ := bytes_nobid _ b0 hs0
          clear h0 h1 b0 hs0 hs1
          go_wp2
          (try simp only [Exit.inBlock, Exit.then])
          exact ⟨⟨rfl, rfl⟩, H2.out.setFlag HF.out 18 (.bool false) { r with token := false } rfl rfl rfl rfl⟩
  rintro a' W ⟨htk, hW, hFW⟩
  obtain ⟨u, rfl⟩ := htk.use
  clear htk H2 HF HB1 HB2 c0'' c18 f18 HH hrb2
  obtain ⟨c0, _, _, _, _, _, _, _, _, _, _⟩ := hW.cells
  have hrbW := hW.lt.1
  have HW := hide hW
  have HFW := hide hFW
  clear hW hFW
  go_wp2_with fail
  refine (look_run S A _ 0 _ HW.out).mono ?_
  rintro e w3 ⟨rfl, hb3⟩
  rw [show lookOf ({ r with token := r.token && tok1 r.x } : R).x 0 = .agg #[.int .i64 r.x.s0.mode, .int .i64 r.x.s0.queue.length, .bool r.x.s0.busy] from rfl]
  have HB3 := hide hb3
  have c0' : w3.cell? ⟨A.rb, 0, none⟩ = some (.pointer (some ⟨A.xb, 0, none⟩)) := (hb3.cell hrbW).trans c0
  have hrb3 : A.rb < w3.heap.size := by have := hb3.size; omega
  have hne3 : A.rb ≠ w3.heap.size := by omega
  clear hb3 c0
  go_wp2_with fail
  have X0 := VwAt.new w3 (.int .i64 r.x.s0.mode) (.int .i64 r.x.s0.queue.length) (.bool r.x.s0.busy)
  have HA := hide (Below.allocN (Below.refl w3.heap.size w3) (.cells #[.int .i64 r.x.s0.mode, .int .i64 r.x.s0.queue.length, .bool r.x.s0.busy] 50))
  generalize w3.alloc (.cells #[.int .i64 r.x.s0.mode, .int .i64 r.x.s0.queue.length, .bool r.x.s0.busy] 50) = W3 at *
  refine (look_run S A _ 1 _ ((HW.out.below HB3.out).below HA.out)).mono ?_
  rintro e w4 ⟨rfl, hb4⟩
  rw [show lookOf ({ r with token := r.token && tok1 r.x } : R).x 1 = .agg #[.int .i64 r.x.s1.mode, .int .i64 r.x.s1.queue.length, .bool r.x.s1.busy] from rfl]
  have hg3 := lt_of_block X0
  have X4 : VwAt w4 w3.heap.size (.int .i64 r.x.s0.mode) (.int .i64 r.x.s0.queue.length) (.bool r.x.s0.busy) := (hb4.block _ hg3).trans X0
  have HB4 := hide (below_step (below_step HB3.out HA.out) hb4)
  have hg4 := lt_of_block X4
  clear hb4 X0 hg3 c0' HA
  dsimp only
  go_step
  go_step
  go_step
  go_step
  go_step
  go_step
  go_step
  go_step
  go_step
  go_step
  go_step
  refine wp_at (fun W => RunAt W S A { r with token := r.token && tok1 r.x } ∧ Fr S w W ∧ VwAt W w3.heap.size (.int .i64 r.x.s0.mode) (.int .i64 r.x.s0.queue.length) (.bool r.x.s0.busy) ∧ VwAt W w4.heap.size (.int .i64 r.x.s1.mode) (.int .i64 r.x.s1.queue.length) (.bool r.x.s1.busy) ∧ w4.heap.size < W.heap.size) ⟨HW.out.below (Below.allocN HB4.out _), HFW.out.trans (Fr.of_below (F := S) (Below.allocN HB4.out _)) (fun _ _ k => k), (Below.heap_alloc _ _ _ hg4).trans X4, VwAt.new w4 _ _ _, by simp⟩ ?_
  rintro W6 ⟨h6, hF6, x0, x1, hg6⟩
  have hn0 : A.rb ≠ w3.heap.size := hne3
  have hn1 : A.rb ≠ w4.heap.size := by have := HB4.out.size; omega
  obtain ⟨_, a11, a12, _, _, _, _, _, c18, _, fz⟩ := h6.cells
  have f18 := fz 18
  have H6 := hide h6
  have HF6 := hide hF6
  have Z0 := hide x0
  have Z1 := hide x1
  obtain ⟨v00, v01, v02⟩ := x0.cell
  obtain ⟨v10, v11, v12⟩ := x1.cell
  clear fz h6 hF6 x0 x1 X4
  generalize w3.heap.size = g0 at *
  generalize w4.heap.size = g1 at *
  refine code_via (Wa2 w S A { r with token := r.token && tok1 r.x && tok2 r.x } r.x g0 g1 (Tw2 A g0 g1)) ?_ ?_
  · by_cases m0 : r.x.s0.mode = 2
    · by_cases m1 : r.x.s1.mode = 3
      · have T2 : Hid (({ r with token := r.token && tok1 r.x && tok2 r.x } : R) = { r with token := r.token && tok1 r.x }) := by unfold Hid tok2; simp [m0, m1]
        rw [T2.out]
        rw [m0] at v00
        rw [m1] at v10
        clear m0 m1
        go_wp2
        (try simp only [Exit.inBlock, Exit.then])
        exact ⟨⟨rfl, rfl⟩, H6.out, HF6.out, Z0.out, Z1.out⟩
      · have T2 : Hid (({ r with token := r.token && tok1 r.x && tok2 r.x } : R) = { r with token := false }) := by unfold Hid tok2; simp [m0, m1]
        rw [T2.out]
        rw [m0] at v00
        have dm1 : ((r.x.s1.mode : Int) == 3) = false := by simp; omega
        have qm1 : decide (r.x.s1.mode = 3) = false := by simp only [decide_eq_false_iff_not]; exact m1
        clear m0
        go_wp2
        (try simp only [Exit.inBlock, Exit.then])
        exact ⟨⟨rfl, rfl⟩, (H6.out.setFlag HF6.out 18 (.bool false) { r with token := false } rfl rfl rfl rfl).1, (H6.out.setFlag HF6.out 18 (.bool false) { r with token := false } rfl rfl rfl rfl).2, Z0.out.set6 hn0 _ _, Z1.out.set6 hn1 _ _⟩
    · by_cases m1 : r.x.s1.mode = 2
      · by_cases m3 : r.x.s0.mode = 3
        · have T2 : Hid (({ r with token := r.token && tok1 r.x && tok2 r.x } : R) = { r with token := r.token && tok1 r.x }) := by unfold Hid tok2; simp [m3, m1]
          rw [T2.out]
          rw [m3] at v00
          rw [m1] at v10
          clear m3 m1
          go_wp2
          (try simp only [Exit.inBlock, Exit.then])
          exact ⟨⟨rfl, rfl⟩, H6.out, HF6.out, Z0.out, Z1.out⟩
        · have T2 : Hid (({ r with token := r.token && tok1 r.x && tok2 r.x } : R) = { r with token := false }) := by unfold Hid tok2; simp [m0, m1, m3]
          rw [T2.out]
          have dm0 : ((r.x.s0.mode : Int) == 2) = false := by simp; omega
          have qm0 : decide (r.x.s0.mode = 2) = false := by simp only [decide_eq_false_iff_not]; exact m0
          rw [m1] at v10
          have dm3 : ((r.x.s0.mode : Int) == 3) = false := by simp; omega
          have qm3 : decide (r.x.s0.mode = 3) = false := by simp only [decide_eq_false_iff_not]; exact m3
          clear m1
          go_wp2
          (try simp only [Exit.inBlock, Exit.then])
          exact ⟨⟨rfl, rfl⟩, (H6.out.setFlag HF6.out 18 (.bool false) { r with token := false } rfl rfl rfl rfl).1, (H6.out.setFlag HF6.out 18 (.bool false) { r with token := false } rfl rfl rfl rfl).2, Z0.out.set6 hn0 _ _, Z1.out.set6 hn1 _ _⟩
      · have T2 : Hid (({ r with token := r.token && tok1 r.x && tok2 r.x } : R) = { r with token := r.token && tok1 r.x }) := by unfold Hid tok2; simp [m0, m1]
        rw [T2.out]
        have dm0 : ((r.x.s0.mode : Int) == 2) = false := by simp; omega
        have qm0 : decide (r.x.s0.mode = 2) = false := by simp only [decide_eq_false_iff_not]; exact m0
        have dm1 : ((r.x.s1.mode : Int) == 2) = false := by simp; omega
        have qm1 : decide (r.x.s1.mode = 2) = false := by simp only [decide_eq_false_iff_not]; exact m1
        go_wp2
        (try simp only [Exit.inBlock, Exit.then])
        exact ⟨⟨rfl, rfl⟩, H6.out, HF6.out, Z0.out, Z1.out⟩
  rintro a' W7 ⟨htk, h7, hF7, x0, x1⟩
  obtain ⟨u, rfl⟩ := htk.use
  obtain ⟨_, b11, b12, _, _, _, _, _, _, _, _⟩ := h7.cells
  obtain ⟨⟨a, cap, s0⟩, s1, ⟨a', cap', t0⟩, t1⟩ := h7.sides
  obtain ⟨w00, w01, w02⟩ := x0.cell
  obtain ⟨w10, w11, w12⟩ := x1.cell
  obtain ⟨f0, f1⟩ := hf
  have H7 := hide h7
  have HF7 := hide hF7
  have wr0 : IntKind.i64.wrap ((r.a.want.length : Int) - (r.a.told : Int)) = (r.x.s0.queue.length : Int) := by rw [wrap_in _ (by omega) (by omega)]; omega
  have wr1 : IntKind.i64.wrap ((r.b.want.length : Int) - (r.b.told : Int)) = (r.x.s1.queue.length : Int) := by rw [wrap_in _ (by omega) (by omega)]; omega
  have HD : Hid (∀ n, RunAt (W7.drewN n) S A { r with token := r.token && tok1 r.x && tok2 r.x } ∧ Fr S w (W7.drewN n)) := fun n => ⟨h7.below (below_drewN (Below.refl _ _) n), hF7.trans (Fr.of_below (F := S) (below_drewN (Below.refl _ _) n)) (fun _ _ k => k)⟩
  clear htk h7 hF7 x0 x1 f0 f1 hb0 hb1 H6 HF6 Z0 Z1 v00 v01 v02 v10 v11 v12 HW HFW a11 a12 c18 f18 H7 HF7
  generalize r.x.s0.queue.length = q0 at *
  generalize r.x.s1.queue.length = q1 at *
  generalize r.a.want.length = la at *
  generalize r.b.want.length = lb at *
  generalize r.a.told = ta at *
  generalize r.b.told = tb at *
  go_wp2
  go_quiet (fail)
  go_wp2
  go_end0
  exact ⟨rfl, HD.out _⟩

end Go.Proofs.YtlbpjcphhocdkabGreatDoor
