/-One tick of the harness. -/
import Derived.Test.YtlbpjcphhocdkabGreatDoorGKc
namespace Go.Proofs.YtlbpjcphhocdkabGreatDoor
set_option maxRecDepth 1000000
open Go.RowKit Go.Proofs.YtlbpjcphhocdkabGreatDoor.Mod Go.Proofs.YtlbpjcphhocdkabGreatDoor.Pst Go.Proofs.YtlbpjcphhocdkabGreatDoor.Run

def noEv : Ev := ⟨0, 0, 0, noMsg⟩
theorem ecells_get (l : List Ev) (i k : Nat) (hk : k < 6) (hi : i < l.length) : (ecells l)[i * 6 + k]? = (evCells (some (l.getD i noEv)))[k]? := by
  induction l generalizing i with
  | nil => simp at hi
  | cons e l ih =>
    have hc : ecells (e :: l) = evCells (some e) ++ ecells l := by simp [ecells]
    have h6 : (evCells (some e)).length = 6 := rfl
    rw [hc]
    cases i with
    | zero => rw [List.getElem?_append_left (by omega)]; simp
    | succ i =>
      rw [List.getElem?_append_right (by omega), h6, show (i + 1) * 6 + k - 6 = i * 6 + k by omega, ih i (by simpa using hi)]
      rfl
theorem OwnE.at' {w : World} {B : Nat} {v : Value} {l : List Ev} (h : OwnE w B v l) (hl : l ≠ []) :
    ∃ g cap, v = .slice (some ⟨g, 0, none⟩) l.length cap ∧ B ≤ g ∧ g < w.heap.size ∧ ∀ i, i < l.length → ∀ k, k < 6 → w.cell? ⟨g, i * 6 + k, none⟩ = (evCells (some (l.getD i noEv)))[k]? := by
  rcases h.2 with ⟨_, h0⟩ | ⟨g, cap, cur, rfl, hB, hh, h1, h2, h3, h4⟩
  · exact absurd (List.eq_nil_of_length_eq_zero h0) hl
  · refine ⟨g, cap, rfl, hB, lt_of_block hh, fun i hi k hk => ?_⟩
    have hlen : (ecells l).length = l.length * 6 := by
      clear h h1 h2 h3 h4 hl hi hh
      induction l with
      | nil => rfl
      | cons e l ih => rw [show ecells (e :: l) = evCells (some e) ++ ecells l by simp [ecells], List.length_append, ih]; simp [evCells]; omega
    have := World.ownsRow.cellAt h (i * 6 + k) (by omega)
    rw [this, ecells_get l i k hk hi]
theorem OwnE.row {w w' : World} {B : Nat} {v : Value} {l : List Ev} (h : OwnE w B v l) (hb : ∀ g, v.ownBlock = some g → g < w.heap.size → w'.heap[g]? = w.heap[g]?) : OwnE w' B v l := by
  obtain ⟨h1, h2⟩ := h
  refine ⟨h1, ?_⟩
  rcases h2 with h2 | ⟨g, cap, cur, hv, hB, hh, r⟩
  · exact Or.inl h2
  · exact Or.inr ⟨g, cap, cur, hv, hB, (hb g (by rw [hv]; rfl) (lt_of_block hh)).trans hh, r⟩
theorem OwnE.form {w : World} {B : Nat} {v : Value} {l : List Ev} (h : OwnE w B v l) : ∃ a cap, v = .slice a l.length cap := by
  rcases h.2 with ⟨rfl, h0⟩ | ⟨g, cap, cur, rfl, _⟩
  · exact ⟨none, 0, by rw [h0]⟩
  · exact ⟨_, cap, rfl⟩

theorem evsR_snoc (r : R) (l : List Ev) (k : Nat) (hk : k < l.length) : evsR r (l.take (k + 1)) = evR (evsR r (l.take k)) (l.getD k noEv) := by
  induction l generalizing r k with
  | nil => simp at hk
  | cons e l ih =>
    cases k with
    | zero => simp [evsR]
    | succ k => simp only [List.take_succ_cons, evsR]; rw [ih _ k (by simpa using hk)]; rfl
theorem evsOk_at (r : R) (l : List Ev) (h : evsOk r l) (k : Nat) (hk : k < l.length) : evOk (evsR r (l.take k)) (l.getD k noEv) := by
  induction l generalizing r k with
  | nil => simp at hk
  | cons e l ih =>
    cases k with
    | zero => exact h.1
    | succ k => simp only [List.take_succ_cons, evsR]; exact ih _ h.2 k (by simpa using hk)
theorem setSide_want (r : R) (st : Int) (s : Side) (h : s.want = (sideOf r st).want) : (setSide r st s).a.want = r.a.want ∧ (setSide r st s).b.want = r.b.want := by
  unfold setSide sideOf at *
  split
  · rename_i k; rw [if_pos k] at h; exact ⟨h, rfl⟩
  · rename_i k; rw [if_neg k] at h; exact ⟨rfl, h⟩
theorem evR_want (r : R) (e : Ev) : (evR r e).a.want = r.a.want ∧ (evR r e).b.want = r.b.want := by
  unfold evR
  split
  · split
    · exact ⟨rfl, rfl⟩
    · exact setSide_want _ _ _ rfl
  · exact setSide_want r e.station { sideOf r e.station with told := (sideOf r e.station).told + 1, here := false } rfl
theorem evsR_want (r : R) (l : List Ev) : (evsR r l).a.want = r.a.want ∧ (evsR r l).b.want = r.b.want := by
  induction l generalizing r with
  | nil => exact ⟨rfl, rfl⟩
  | cons e l ih => exact ⟨(ih _).1.trans (evR_want r e).1, (ih _).2.trans (evR_want r e).2⟩

/-- The line's tick, in the run. -/
theorem ticked_run (S : Nat → Prop) (A : RA) (r : R) (w : World) (h : RunAt w S A r) (hg : LGood r.x) (j0 : r.x.s0.joined ≤ 1000000000000000) (j1 : r.x.s1.joined ≤ 1000000000000000) :
    Calls Tryz.prog 28 #[.pointer (some ⟨A.xb, 0, none⟩)] w fun e w' => ∃ v, e = .returned v ∧ OwnE w' w.heap.size v (events r.x) ∧ RunAt w' (fun g => Plus S w g ∧ ¬ v.ownBlock = some g) A { r with x := tick r.x } ∧ Fr S w w' := by
  obtain ⟨F, hl, hF, k⟩ := h.line
  refine (tick_line F A.xb r.x w hl hg j0 j1).mono ?_
  rintro e w' ⟨v, rfl, hv, hL, hf⟩
  have ho := hl.own
  obtain ⟨k1, k2⟩ := k w' (tick r.x) (fun g => v.ownBlock = some g) (hf.mono fun g e => by rw [e]; exact ho) hL rfl (fun g e => (World.ownsRow.lt hv g e).1)
  exact ⟨v, rfl, hv, k1, k2⟩

/-- The events' loop. -/
def TkRel (w W1 : World) (S1 : Nat → Prop) (A : RA) (r1 : R) (v : Value) (l : List Ev) (k : Nat) (W : World) : Prop :=
  OwnE W w.heap.size v l ∧ RunAt W S1 A (evsR r1 (l.take k)) ∧ Fr S1 W1 W

set_option maxHeartbeats 4000000 in
theorem tick_run (S : Nat → Prop) (A : RA) (r : R) (w : World) (h : RunAt w S A r) (hg : LGood r.x) (j0 : r.x.s0.joined ≤ 1000000000000000) (j1 : r.x.s1.joined ≤ 1000000000000000)
    (he : evsOk { r with x := tick r.x } (events r.x)) (hlen : (events r.x).length ≤ 2) (hinc : 1 < (events r.x).length → ((events r.x).getD 0 noEv).station < ((events r.x).getD 1 noEv).station) (hfit : fitOk (evsR { r with x := tick r.x } (events r.x))) (hb0 : r.a.want.length ≤ 1000000000000000) (hb1 : r.b.want.length ≤ 1000000000000000) :
    Calls Tryz.prog 12 #[.pointer (some ⟨A.rb, 0, none⟩)] w fun x w' => ∃ v, x = .returned v ∧ OwnE w' w.heap.size v (events r.x) ∧ RunAt w' (fun g => Plus S w g ∧ ¬ v.ownBlock = some g) A { evsR { r with x := tick r.x } (events r.x) with hit := false, token := r.token && tokOk (tick r.x) } ∧ Fr S w w' := by
  obtain ⟨c0, _⟩ := h.cells
  have HH := hide h
  have HG := hide hg
  have HE := hide he
  have HI := hide hinc
  have HFit := hide hfit
  have hrb := h.lt.1
  clear h hg he hinc hfit
  go_enter Tryz.func12, Tryz.ntmps12
  go_wp2_with fail
  refine (ticked_run S A r _ HH.out HG.out j0 j1).mono ?_
  rintro x w1 ⟨v, rfl, hv, h1, hf1⟩
  obtain ⟨a, cap, hve⟩ := hv.form
  have HV := hide hv
  have H1 := hide h1
  have HF1 := hide hf1
  have hrb1 := h1.lt.1
  generalize hl : events r.x = l at *
  generalize hr1 : ({ r with x := tick r.x } : R) = r1 at *
  subst hve
  clear hv h1 hf1
  have hl2 : (l.length : Int) ≤ 2 := by omega
  go_wp2
  go_loopw [4] (fun i wr => ∃ k : Nat, i = .int .i64 k ∧ k ≤ l.length ∧ Hid (TkRel w w1 (fun g => Plus S w g ∧ ¬ (Value.slice a l.length cap).ownBlock = some g) A r1 (.slice a l.length cap) l k wr)) (fun i _ => l.length - (intOf i).toNat)
  case atStart => exact ⟨0, rfl, by omega, HV.out, by simpa [evsR] using H1.out, Fr.refl _ _⟩
  case round =>
    obtain ⟨k, rfl, hk, HT⟩ := hrel
    by_cases hlt : k < l.length
    · have hne : l ≠ [] := fun e => by rw [e] at hlt; simp at hlt
      obtain ⟨g, cap2, eg, _, hgl, hgc⟩ := HT.out.1.at' hne
      have hrun := hide HT.out.2.1
      have hev := hide (evsOk_at r1 l HE.out k hlt)
      have hsn := hide (evsR_snoc r1 l k hlt)
      have hw := evsR_want r1 (l.take k)
      have hw0 : (evsR r1 (l.take k)).a.want.length ≤ 1000000000000000 := by rw [hw.1, ← hr1]; exact hb0
      have hw1 : (evsR r1 (l.take k)).b.want.length ≤ 1000000000000000 := by rw [hw.2, ← hr1]; exact hb1
      have HW0 := hide hw0
      have HW1 := hide hw1
      have hrbr := hrun.out.lt.1
      have HGN : Hid (∀ W2, Fr (fun x => Plus S w x ∧ ¬ (Value.slice a l.length cap).ownBlock = some x) wr W2 → W2.heap[g]? = wr.heap[g]?) := fun W2 f => f.block g hgl (fun k => k.2 (by rw [eg]; rfl))
      have HGL := hide hgl
      have hlt' : (k : Int) < (l.length : Int) := by omega
      have q0 := hgc k hlt 0 (by omega)
      have q1 := hgc k hlt 1 (by omega)
      have q2 := hgc k hlt 2 (by omega)
      have q3 := hgc k hlt 3 (by omega)
      have q4 := hgc k hlt 4 (by omega)
      have q5 := hgc k hlt 5 (by omega)
      simp only [evCells, List.getElem?_cons_zero, List.getElem?_cons_succ] at q0 q1 q2 q3 q4 q5
      simp only [Value.slice.injEq, true_and] at eg
      obtain ⟨rfl, rfl⟩ := eg
      rcases (show k = 0 ∨ k = 1 by omega) with rfl | rfl
      · simp only [Nat.zero_mul, Nat.zero_add] at q0 q1 q2 q3 q4 q5
        clear hw hw0 hw1 hgc hne
        generalize hee : l.getD 0 noEv = e at *
        clear hee
        go_wp2_with fail
        refine (event_run _ A _ e _ hrun.out hev.out HW0.out HW1.out).mono ?_
        rintro x w2 ⟨rfl, h2, hf2⟩
        have HO2 := hide (HT.out.1.row (w' := w2) (fun g' e' hl' => by simp only [Value.ownBlock, Option.some.injEq] at e'; subst e'; exact HGN.out w2 hf2))
        have H2 := hide h2
        have HF2 := hide (HT.out.2.2.trans hf2 (fun _ _ k => k))
        clear h2 hf2 q0 q1 q2 q3 q4 q5
        go_wp2
        go_quiet (fail)
        go_wp2
        go_roundw
        case rel =>
          refine ⟨1, by go_num, by omega, ?_⟩
          refine ⟨HO2.out.row (fun _ _ _ => rfl), ?_, HF2.out.trans (Fr.of_below (F := fun _ => False) (below_drewN (Below.refl _ _) _)) (fun _ _ k => k.elim)⟩
          rw [hsn.out]
          exact H2.out.below (below_drewN (Below.refl _ _) _)
        case measure => simp [intOf]; omega
      · have p1 := hgc 0 (by omega) 1 (by omega)
        simp only [evCells, List.getElem?_cons_zero, List.getElem?_cons_succ, Nat.zero_mul, Nat.zero_add] at p1
        simp only [Nat.one_mul] at q0 q1 q2 q3 q4 q5
        have hst := HI.out (by omega)
        clear hw hw0 hw1 hgc hne
        generalize hee : l.getD 1 noEv = e at *
        generalize hdd : l.getD 0 noEv = d at *
        clear hee hdd
        have dst : decide (e.station ≤ d.station) = false := by simp only [decide_eq_false_iff_not]; omega
        go_wp2_with fail
        refine (event_run _ A _ e _ hrun.out hev.out HW0.out HW1.out).mono ?_
        rintro x w2 ⟨rfl, h2, hf2⟩
        have HO2 := hide (HT.out.1.row (w' := w2) (fun g' e' hl' => by simp only [Value.ownBlock, Option.some.injEq] at e'; subst e'; exact HGN.out w2 hf2))
        have hgb := HGN.out w2 hf2
        have p1' : w2.cell? ⟨g, 1, none⟩ = some (.int .i64 d.station) := (World.cell?_of_block hgb).trans p1
        have q1' : w2.cell? ⟨g, 7, none⟩ = some (.int .i64 e.station) := (World.cell?_of_block hgb).trans q1
        have H2 := hide h2
        have HF2 := hide (HT.out.2.2.trans hf2 (fun _ _ k => k))
        clear h2 hf2 q0 q1 q2 q3 q4 q5 p1 hgb hst
        have hl1 : (1 : Int) < (l.length : Int) := by omega
        have hl0 : (0 : Int) < (l.length : Int) := by omega
        go_wp2
        go_quiet (fail)
        go_wp2
        go_roundw
        case rel =>
          refine ⟨2, by go_num, by omega, ?_⟩
          refine ⟨HO2.out.row (fun _ _ _ => rfl), ?_, HF2.out.trans (Fr.of_below (F := fun _ => False) (below_drewN (Below.refl _ _) _)) (fun _ _ k => k.elim)⟩
          rw [hsn.out]
          exact H2.out.below (below_drewN (Below.refl _ _) _)
        case measure => simp [intOf]; omega
    · have hkl : k = l.length := by omega
      subst hkl
      have hT := HT.out
      have hnl : ¬ (l.length : Int) < (l.length : Int) := by omega
      have hrunr := hT.2.1
      rw [List.take_of_length_le (Nat.le_refl _)] at hrunr
      obtain ⟨_, _, _, c13, _, _, _, _, _, _, fz⟩ := hrunr.cells
      have f13 := fz 13
      have hs := hide (hrunr.setFlag hT.2.2 13 (.bool false) { evsR r1 l with hit := false } rfl rfl rfl rfl)
      have HO := hide (hT.1.row (w' := wr.setCell ⟨A.rb, 13, none⟩ (.bool false)) (fun g' e' _ => Below.heap_setCell _ _ _ _ (fun e2 => (hrunr.own.1).2 (by rw [← show g' = A.rb from e2]; exact e'))))
      have hrbr := hrunr.lt.1
      have hw := evsR_want r1 l
      have HW0 : Hid ((evsR r1 l).a.want.length ≤ 1000000000000000) := by rw [Hid, hw.1, ← hr1]; exact hb0
      have HW1 : Hid ((evsR r1 l).b.want.length ≤ 1000000000000000) := by rw [Hid, hw.2, ← hr1]; exact hb1
      have HX : Hid ((evsR r1 l).x = tick r.x ∧ (evsR r1 l).token = r.token) := by
        refine ⟨by rw [evsR_x, ← hr1], ?_⟩
        rw [(evsR_flags r1 l).2.2.2.2.2, ← hr1]
      clear hT hrunr fz hw
      go_wp2_with fail
      refine (watch_run _ A { evsR r1 l with hit := false } _ hs.out.1 HFit.out HW0.out HW1.out).mono ?_
      rintro x w3 ⟨rfl, h3, hf3⟩
      have HO3 := hide (HO.out.row (w' := w3) (fun g' e' hl' => hf3.block g' hl' (fun k => k.2 e')))
      have H3 := hide h3
      have HF3 := hide (HF1.out.trans (hs.out.2.trans hf3 (fun _ _ k => k)) (fun g' hg' k => k.1.elim id (fun y => by omega)))
      clear h3 hf3
      go_wp2
      go_ret
      refine ⟨.slice a l.length cap, rfl, ?_, ?_, HF3.out⟩
      · rw [hl]; exact HO3.out
      · rw [hl, hr1]
        have h3 := H3.out
        have e1 : ({ evsR r1 l with hit := false } : R).x = tick r.x := HX.out.1
        have e2 : ({ evsR r1 l with hit := false } : R).token = r.token := HX.out.2
        rw [e1, e2] at h3
        have e3 := HX.out.1
        rw [e3]
        exact h3

end Go.Proofs.YtlbpjcphhocdkabGreatDoor
