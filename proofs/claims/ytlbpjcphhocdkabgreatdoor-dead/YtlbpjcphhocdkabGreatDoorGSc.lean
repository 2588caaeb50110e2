/-What a station does in a tick: Idle, Bidding, Sending. Plain: the line as the program keeps it, against the document's; what stays within bounds. The station says its last yes; a block's text. The station receives a block. -/
import Derived.Test.YtlbpjcphhocdkabGreatDoorGSb
import Derived.Test.YtlbpjcphhocdkabGreatDoorGPb
namespace Go.Proofs.YtlbpjcphhocdkabGreatDoor
open Go.RowKit Go.Proofs.YtlbpjcphhocdkabGreatDoor.Mod Go.Proofs.YtlbpjcphhocdkabGreatDoor.Pst

/-- What is known of a station's fields. -/
structure PSOk (c : Cfg) (s : PS) : Prop where
  qlen : s.q.length ≤ 100
  qj : s.q.length ≤ s.joined
  jm : s.joined ≤ 1000000000000000
  fit : ∀ m ∈ s.q, MsgFit m
  ne : s.mode = 1 ∨ s.mode = 2 → s.q ≠ []
  tr : s.mode = 1 ∨ s.mode = 2 → s.tries ≤ 1000 ∧ s.off ≤ 1000
  blk : s.mode = 2 → s.block < nblk c (message s)
  rcv : s.mode = 3 → (s.yes = 7 ∨ s.yes = 8) ∧ s.head.length ≤ 8 ∧ s.text.length ≤ 200
  wr : s.wait ≤ 1000 ∧ s.rest ≤ 1000

theorem PSOk.mfit {c : Cfg} {s : PS} (h : PSOk c s) (hq : s.q ≠ []) : MsgFit (message s) := by
  apply h.fit
  unfold message
  cases hs : s.q with
  | nil => exact absurd hs hq
  | cons a l => simp

theorem evV_form (x : Option Ev) : ∃ (k st n : Int) (h t : ByteArray) (c : Bool), evV x = .agg #[.int .i64 k, .int .i64 st, .int .i64 n, .string h, .string t, .bool c] := by
  cases x with
  | none => exact ⟨_, _, _, _, _, _, rfl⟩
  | some e => exact ⟨_, _, _, _, _, _, rfl⟩

set_option maxHeartbeats 1000000 in
set_option maxRecDepth 1000000 in
theorem actIdle_any (F : Nat → Prop) (b o : Nat) (s : PS) (k : Nat) (c : Cfg) (w : World) (h : StAt w F b o s) (hn : s.q.length ≤ 100) :
    Calls Tryz.prog 60 #[.pointer (some ⟨b, o, none⟩), .int .i64 k, cfgV c] w fun e w' => Does w F b o (actIdle k c s) e w' := by
  have hlt := h.lt
  have hne : b ≠ w.heap.size := by omega
  have H := hide (h.alloc (.cells (cfgCells c) 23))
  have HB := hide ((Bes.refl b o w).alloc hlt (.cells (cfgCells c) 23))
  obtain ⟨v, c1, hv⟩ := h.que
  obtain ⟨a, cap, rfl⟩ := hv.form
  have c7 := h.rest
  clear hv h
  unfold cfgV
  by_cases h3 : k = 3
  · have HE : Hid (actIdle k c s = answer c s) := by simp [Hid, actIdle, h3]
    have d3 : ((k : Int) == 3) = true := by simp [h3]
    clear h3
    go_enter Tryz.func60, Tryz.ntmps60
    go_wp2_with fail
    refine (answer_any F b o s c _ H.out).mono ?_
    rintro e w1 ⟨rfl, h1, b1⟩
    go_wp2
    go_end0
    rw [HE.out]
    exact ⟨rfl, h1, HB.out.trans b1⟩
  · have d3 : ((k : Int) == 3) = false := by simp; omega
    by_cases hq : s.q = []
    · have HE : Hid (actIdle k c s = s) := by simp [Hid, actIdle, h3, hq]
      have dq : ¬ (0 : Int) < (s.q.length : Int) := by rw [hq]; simp
      generalize s.q.length = L at *
      clear h3 hq
      go_enter Tryz.func60, Tryz.ntmps60
      go_wp2
      go_end0
      rw [HE.out]
      exact ⟨rfl, H.out, HB.out⟩
    · have dq : (0 : Int) < (s.q.length : Int) := by have := List.length_pos_iff.2 hq; omega
      generalize s.q.length = L at *
      by_cases hr : s.rest = 0
      · have HE : Hid (actIdle k c s = bid c s) := by simp [Hid, actIdle, h3, hq, hr]
        rw [hr] at c7
        clear h3 hq
        go_enter Tryz.func60, Tryz.ntmps60
        go_wp2_with fail
        refine (bid_any F b o s c _ H.out).mono ?_
        rintro e w1 ⟨rfl, h1, b1⟩
        go_wp2
        go_end0
        rw [HE.out]
        exact ⟨rfl, h1, HB.out.trans b1⟩
      · have HE : Hid (actIdle k c s = s) := by simp [Hid, actIdle, h3, hr]
        have dr : ((s.rest : Int) == 0) = false := by simp; omega
        clear h3 hq
        go_enter Tryz.func60, Tryz.ntmps60
        go_wp2
        go_end0
        rw [HE.out]
        exact ⟨rfl, H.out, HB.out⟩

set_option maxHeartbeats 1000000 in
set_option maxRecDepth 1000000 in
theorem actBidding_any (F : Nat → Prop) (b o : Nat) (s : PS) (k : Nat) (c : Cfg) (w : World) (h : StAt w F b o s) (hF : ∀ x, F x → x < w.heap.size) (hc : c.Ok) (hp : PSOk c s) (hm : s.mode = 1) :
    Calls Tryz.prog 57 #[.pointer (some ⟨b, o, none⟩), .int .i64 k, cfgV c] w fun e w' => Tells w F b o (actBidding k c s) e w' := by
  have hlt := h.lt
  have hne : b ≠ w.heap.size := by omega
  have hne1 : b ≠ w.heap.size + 1 := by omega
  have HN := hide h.nb
  have HCK := hide hc
  have HP := hide hp
  have hq := hp.ne (by omega)
  have HMF := hide (hp.mfit hq)
  have HR : Hid (StAt ((w.alloc (.cells (cfgCells c) 23)).alloc (.cells zeroEv 38)) F b o s ∧ Bes b o w ((w.alloc (.cells (cfgCells c) 23)).alloc (.cells zeroEv 38)) ∧ CfgAt ((w.alloc (.cells (cfgCells c) 23)).alloc (.cells zeroEv 38)) w.heap.size c ∧ Ev0 ((w.alloc (.cells (cfgCells c) 23)).alloc (.cells zeroEv 38)) (w.heap.size + 1)) :=
    ⟨(h.alloc _).alloc _, ((Bes.refl b o w).alloc hlt _).alloc (by simp; omega) _, (CfgAt.at rfl c).alloc _, EvAt.new (by simp) _ _ _ _ _ _⟩
  have hFF : ∀ x, F x → x < ((w.alloc (.cells (cfgCells c) 23)).alloc (.cells zeroEv 38)).heap.size := fun x hx => by have := hF x hx; simp; omega
  have HFF := hide hFF
  have hz : w.heap.size + 1 < ((w.alloc (.cells (cfgCells c) 23)).alloc (.cells zeroEv 38)).heap.size := by simp
  have HZ := hide hz
  have c0 := h.side
  have c6 := h.wait
  clear h hc hp hFF hz
  unfold cfgV
  by_cases h7 : k = 7
  · have d7 : ((k : Int) == 7) = true := by simp [h7]
    have HE : Hid (actBidding k c s = (send 0 c s, none)) := by simp [Hid, actBidding, h7]
    go_enter Tryz.func57, Tryz.ntmps57
    go_wp2_with fail
    refine (send_any F b o s 0 c _ HR.out.1 HCK.out hq HP.out.qlen HMF.out (nblk_pos c _)).mono ?_
    rintro e w4 ⟨rfl, h4, b4⟩
    have HV4 := hide (Ev0.bes HR.out.2.2.2 b4 hne1)
    have HB4 := hide (HR.out.2.1.trans b4)
    obtain ⟨⟨x0, x1, x2, x3, x4, x5⟩, q0, q1, q2, q3, q4, q5⟩ := HV4.out.all
    have H4 := hide h4
    clear h4 b4
    go_wp2
    (try simp only [Exit.inBlock, Exit.then])
    refine bodyPost_ret (results_ev rfl _ _ (w.heap.size + 1) rfl (EvAt.all HV4.out)) rfl ?_
    rw [HE.out]
    exact ⟨rfl, ev_end H4.out HB4.out (fun _ => Or.inl) (own_ne hF (by omega)) (by omega) hlt HN.out _ _ _ _ _ _⟩
  · have d7 : ((k : Int) == 7) = false := by simp; omega
    by_cases h9 : k = 9
    · have d9 : ((k : Int) == 9) = true := by simp [h9]
      have HE : Hid (actBidding k c s = putOff c s) := by simp [Hid, actBidding, h9]
      go_enter Tryz.func57, Tryz.ntmps57
      go_wp2_with fail
      refine (putOff_any F b o s c _ HR.out.1 HFF.out HP.out.qj HP.out.jm HP.out.qlen (HP.out.tr (Or.inl hm)).2).mono ?_
      rintro e w4 ⟨rfl, h4, b4⟩
      have HV4 := hide (Ev0.bes HR.out.2.2.2 b4 hne1)
      have HB4 := hide (HR.out.2.1.trans b4)
      obtain ⟨⟨x0, x1, x2, x3, x4, x5⟩, q0, q1, q2, q3, q4, q5⟩ := HV4.out.all
      have H4 := hide h4
      obtain ⟨ek, est, en, eh, et, ec, hev⟩ := evV_form (putOff c s).2
      have HEV := hide hev
      rw [hev]
      clear h4 b4 hev
      go_wp2
      (try simp only [Exit.inBlock, Exit.then])
      refine bodyPost_ret (results_ev rfl _ _ (w.heap.size + 1) rfl (EvAt.all HV4.out)) rfl ?_
      rw [HE.out]
      exact ⟨by rw [HEV.out], ev_end H4.out HB4.out (Plus.sub HR.out.2.1.size) (plus_ne hF (by omega) HZ.out) (by omega) hlt HN.out _ _ _ _ _ _⟩
    · have d9 : ((k : Int) == 9) = false := by simp; omega
      by_cases h3 : k = 3 ∧ s.side = 1
      · have d3 : ((k : Int) == 3) = true := by simp [h3.1]
        have ds : ((s.side : Int) == 1) = true := by simp [h3.2]
        have HE : Hid (actBidding k c s = (answer c s, none)) := by simp [Hid, actBidding, h3]
        go_enter Tryz.func57, Tryz.ntmps57
        go_wp2_with fail
        refine (answer_any F b o s c _ HR.out.1).mono ?_
        rintro e w4 ⟨rfl, h4, b4⟩
        have HV4 := hide (Ev0.bes HR.out.2.2.2 b4 hne1)
        have HB4 := hide (HR.out.2.1.trans b4)
        obtain ⟨⟨x0, x1, x2, x3, x4, x5⟩, q0, q1, q2, q3, q4, q5⟩ := HV4.out.all
        have H4 := hide h4
        clear h4 b4
        go_wp2
        (try simp only [Exit.inBlock, Exit.then])
        refine bodyPost_ret (results_ev rfl _ _ (w.heap.size + 1) rfl (EvAt.all HV4.out)) rfl ?_
        rw [HE.out]
        exact ⟨rfl, ev_end H4.out HB4.out (fun _ => Or.inl) (own_ne hF (by omega)) (by omega) hlt HN.out _ _ _ _ _ _⟩
      · have d3 : (((k : Int) == 3) && ((s.side : Int) == 1)) = false := by
          simp only [Bool.and_eq_false_iff, beq_eq_false_iff_ne, ne_eq]
          omega
        by_cases hw : s.wait = 0
        · rw [hw] at c6
          by_cases h3k : k = 3
          · have d3k : ((k : Int) == 3) = true := by simp [h3k]
            have ds : ((s.side : Int) == 1) = false := by simp; omega
            have HE : Hid (actBidding k c s = tryAgain 3 c s) := by unfold Hid actBidding; rw [if_neg h7, if_neg h9, if_neg h3, if_pos hw]
            go_enter Tryz.func57, Tryz.ntmps57
            go_wp2_with fail
            refine (tryAgain_any F b o s 3 c _ HR.out.1 HFF.out HP.out.qj HP.out.jm HP.out.qlen (HP.out.tr (Or.inl hm)).1 (by omega)).mono ?_
            rintro e w4 ⟨rfl, h4, b4⟩
            have HV4 := hide (Ev0.bes HR.out.2.2.2 b4 hne1)
            have HB4 := hide (HR.out.2.1.trans b4)
            obtain ⟨⟨x0, x1, x2, x3, x4, x5⟩, q0, q1, q2, q3, q4, q5⟩ := HV4.out.all
            have H4 := hide h4
            obtain ⟨ek, est, en, eh, et, ec, hev⟩ := evV_form (tryAgain 3 c s).2
            have HEV := hide hev
            rw [hev]
            clear h4 b4 hev
            go_wp2
            (try simp only [Exit.inBlock, Exit.then])
            refine bodyPost_ret (results_ev rfl _ _ (w.heap.size + 1) rfl (EvAt.all HV4.out)) rfl ?_
            rw [HE.out]
            exact ⟨by rw [HEV.out], ev_end H4.out HB4.out (Plus.sub HR.out.2.1.size) (plus_ne hF (by omega) HZ.out) (by omega) hlt HN.out _ _ _ _ _ _⟩
          · have d3k : ((k : Int) == 3) = false := by simp; omega
            have HE : Hid (actBidding k c s = tryAgain 3 c s) := by unfold Hid actBidding; rw [if_neg h7, if_neg h9, if_neg h3, if_pos hw]
            go_enter Tryz.func57, Tryz.ntmps57
            go_wp2_with fail
            refine (tryAgain_any F b o s 3 c _ HR.out.1 HFF.out HP.out.qj HP.out.jm HP.out.qlen (HP.out.tr (Or.inl hm)).1 (by omega)).mono ?_
            rintro e w4 ⟨rfl, h4, b4⟩
            have HV4 := hide (Ev0.bes HR.out.2.2.2 b4 hne1)
            have HB4 := hide (HR.out.2.1.trans b4)
            obtain ⟨⟨x0, x1, x2, x3, x4, x5⟩, q0, q1, q2, q3, q4, q5⟩ := HV4.out.all
            have H4 := hide h4
            obtain ⟨ek, est, en, eh, et, ec, hev⟩ := evV_form (tryAgain 3 c s).2
            have HEV := hide hev
            rw [hev]
            clear h4 b4 hev
            go_wp2
            (try simp only [Exit.inBlock, Exit.then])
            refine bodyPost_ret (results_ev rfl _ _ (w.heap.size + 1) rfl (EvAt.all HV4.out)) rfl ?_
            rw [HE.out]
            exact ⟨by rw [HEV.out], ev_end H4.out HB4.out (Plus.sub HR.out.2.1.size) (plus_ne hF (by omega) HZ.out) (by omega) hlt HN.out _ _ _ _ _ _⟩
        · have dw : ((s.wait : Int) == 0) = false := by simp; omega
          by_cases h3k : k = 3
          · have d3k : ((k : Int) == 3) = true := by simp [h3k]
            have ds : ((s.side : Int) == 1) = false := by simp; omega
            have HE : Hid (actBidding k c s = (s, none)) := by unfold Hid actBidding; rw [if_neg h7, if_neg h9, if_neg h3, if_neg hw]
            go_enter Tryz.func57, Tryz.ntmps57
            go_wp2
            (try simp only [Exit.inBlock, Exit.then])
            refine bodyPost_ret (results_ev rfl _ _ (w.heap.size + 1) rfl HR.out.2.2.2) rfl ?_
            rw [HE.out]
            exact ⟨rfl, HR.out.1.mono (fun _ => Or.inl) (fun x => x.elim HN.out (fun y => by omega)), HR.out.2.1⟩
          · have d3k : ((k : Int) == 3) = false := by simp; omega
            have HE : Hid (actBidding k c s = (s, none)) := by unfold Hid actBidding; rw [if_neg h7, if_neg h9, if_neg h3, if_neg hw]
            go_enter Tryz.func57, Tryz.ntmps57
            go_wp2
            (try simp only [Exit.inBlock, Exit.then])
            refine bodyPost_ret (results_ev rfl _ _ (w.heap.size + 1) rfl HR.out.2.2.2) rfl ?_
            rw [HE.out]
            exact ⟨rfl, HR.out.1.mono (fun _ => Or.inl) (fun x => x.elim HN.out (fun y => by omega)), HR.out.2.1⟩

set_option maxHeartbeats 1000000 in
set_option maxRecDepth 1000000 in
theorem actSending_any (F : Nat → Prop) (b o : Nat) (s : PS) (k : Nat) (c : Cfg) (w : World) (h : StAt w F b o s) (hF : ∀ x, F x → x < w.heap.size) (hc : c.Ok) (hp : PSOk c s) (hm : s.mode = 2) :
    Calls Tryz.prog 58 #[.pointer (some ⟨b, o, none⟩), .int .i64 k, cfgV c] w fun e w' => Tells w F b o (actSending k c s) e w' := by
  have hlt := h.lt
  have hne : b ≠ w.heap.size := by omega
  have hne1 : b ≠ w.heap.size + 1 := by omega
  have HN := hide h.nb
  have HCK := hide hc
  have HP := hide hp
  have hq := hp.ne (by omega)
  have HMF := hide (hp.mfit hq)
  have HR : Hid (StAt ((w.alloc (.cells (cfgCells c) 23)).alloc (.cells zeroEv 38)) F b o s ∧ Bes b o w ((w.alloc (.cells (cfgCells c) 23)).alloc (.cells zeroEv 38)) ∧ CfgAt ((w.alloc (.cells (cfgCells c) 23)).alloc (.cells zeroEv 38)) w.heap.size c ∧ Ev0 ((w.alloc (.cells (cfgCells c) 23)).alloc (.cells zeroEv 38)) (w.heap.size + 1)) :=
    ⟨(h.alloc _).alloc _, ((Bes.refl b o w).alloc hlt _).alloc (by simp; omega) _, (CfgAt.at rfl c).alloc _, EvAt.new (by simp) _ _ _ _ _ _⟩
  have hFF : ∀ x, F x → x < ((w.alloc (.cells (cfgCells c) 23)).alloc (.cells zeroEv 38)).heap.size := fun x hx => by have := hF x hx; simp; omega
  have HFF := hide hFF
  have hz : w.heap.size + 1 < ((w.alloc (.cells (cfgCells c) 23)).alloc (.cells zeroEv 38)).heap.size := by simp
  have HZ := hide hz
  have HBL := hide (hp.blk hm)
  have hbl : s.block ≤ 1000000000 := by
    rcases (block_lt hc s.block).1 (hp.blk hm) with h | h
    · omega
    · have h1 : s.block * 1 ≤ s.block * (c.size * c.parts) := Nat.mul_le_mul_left _ (Nat.mul_le_mul hc.size.1 hc.parts.1)
      have := (hp.mfit hq).2.1
      omega
  have c6 := h.wait
  have c11 := h.block
  have HAS : Hid (actSending k c s = if k = expectedYes s.block then sendNext c s else if k = 7 ∨ k = 8 ∨ k = 6 then sendAgain c s else if k = 9 then putOff c s else if s.wait = 0 then tryAgain 4 c s else (s, none)) := rfl
  clear h hc hp hFF hz
  unfold cfgV
  have HXY := hide (fun W => expectedYes_any s.block W hbl)
  generalize expectedYes s.block = EY at *
  by_cases hy : k = EY
  · have dy : ((k : Int) == (EY : Int)) = true := by simp [hy]
    have HE : Hid (actSending k c s = sendNext c s) := by rw [Hid, HAS.out, if_pos hy]
    go_enter Tryz.func58, Tryz.ntmps58
    go_wp2_with fail
    refine (HXY.out _).mono ?_
    rintro e wz ⟨rfl, hwz⟩
    subst hwz
    go_wp2_with fail
    refine (sendNext_any F b o s c _ HR.out.1 HFF.out HCK.out hq HP.out.qlen HP.out.qj HP.out.jm HMF.out HBL.out).mono ?_
    rintro e w4 ⟨rfl, h4, b4⟩
    have HV4 := hide (Ev0.bes HR.out.2.2.2 b4 hne1)
    have HB4 := hide (HR.out.2.1.trans b4)
    obtain ⟨⟨x0, x1, x2, x3, x4, x5⟩, q0, q1, q2, q3, q4, q5⟩ := HV4.out.all
    have H4 := hide h4
    obtain ⟨ek, est, en, eh, et, ec, hev⟩ := evV_form (sendNext c s).2
    have HEV := hide hev
    rw [hev]
    clear h4 b4 hev
    go_wp2
    (try simp only [Exit.inBlock, Exit.then])
    refine bodyPost_ret (results_ev rfl _ _ (w.heap.size + 1) rfl (EvAt.all HV4.out)) rfl ?_
    rw [HE.out]
    exact ⟨by rw [HEV.out], ev_end H4.out HB4.out (Plus.sub HR.out.2.1.size) (plus_ne hF (by omega) HZ.out) (by omega) hlt HN.out _ _ _ _ _ _⟩
  · have dy : ((k : Int) == (EY : Int)) = false := by simp; omega
    by_cases h6 : k = 7 ∨ k = 8 ∨ k = 6
    · have HE0 : Hid (actSending k c s = sendAgain c s) := by rw [Hid, HAS.out, if_neg hy, if_pos h6]
      by_cases h7 : k = 7
      · have d7 : ((k : Int) == 7) = true := by simp [h7]
        have HE : Hid (actSending k c s = sendAgain c s) := by exact HE0.out
        go_enter Tryz.func58, Tryz.ntmps58
        go_wp2_with fail
        refine (HXY.out _).mono ?_
        rintro e wz ⟨rfl, hwz⟩
        subst hwz
        go_wp2_with fail
        refine (sendAgain_any F b o s c _ HR.out.1 HFF.out HCK.out hq HP.out.qlen HP.out.qj HP.out.jm (HP.out.tr (Or.inr hm)).1 HMF.out HBL.out).mono ?_
        rintro e w4 ⟨rfl, h4, b4⟩
        have HV4 := hide (Ev0.bes HR.out.2.2.2 b4 hne1)
        have HB4 := hide (HR.out.2.1.trans b4)
        obtain ⟨⟨x0, x1, x2, x3, x4, x5⟩, q0, q1, q2, q3, q4, q5⟩ := HV4.out.all
        have H4 := hide h4
        obtain ⟨ek, est, en, eh, et, ec, hev⟩ := evV_form (sendAgain c s).2
        have HEV := hide hev
        rw [hev]
        clear h4 b4 hev
        go_wp2
        (try simp only [Exit.inBlock, Exit.then])
        refine bodyPost_ret (results_ev rfl _ _ (w.heap.size + 1) rfl (EvAt.all HV4.out)) rfl ?_
        rw [HE.out]
        exact ⟨by rw [HEV.out], ev_end H4.out HB4.out (Plus.sub HR.out.2.1.size) (plus_ne hF (by omega) HZ.out) (by omega) hlt HN.out _ _ _ _ _ _⟩
      · have d7 : ((k : Int) == 7) = false := by simp; omega
        by_cases h8 : k = 8
        · have d8 : ((k : Int) == 8) = true := by simp [h8]
          have HE : Hid (actSending k c s = sendAgain c s) := by exact HE0.out
          go_enter Tryz.func58, Tryz.ntmps58
          go_wp2_with fail
          refine (HXY.out _).mono ?_
          rintro e wz ⟨rfl, hwz⟩
          subst hwz
          go_wp2_with fail
          refine (sendAgain_any F b o s c _ HR.out.1 HFF.out HCK.out hq HP.out.qlen HP.out.qj HP.out.jm (HP.out.tr (Or.inr hm)).1 HMF.out HBL.out).mono ?_
          rintro e w4 ⟨rfl, h4, b4⟩
          have HV4 := hide (Ev0.bes HR.out.2.2.2 b4 hne1)
          have HB4 := hide (HR.out.2.1.trans b4)
          obtain ⟨⟨x0, x1, x2, x3, x4, x5⟩, q0, q1, q2, q3, q4, q5⟩ := HV4.out.all
          have H4 := hide h4
          obtain ⟨ek, est, en, eh, et, ec, hev⟩ := evV_form (sendAgain c s).2
          have HEV := hide hev
          rw [hev]
          clear h4 b4 hev
          go_wp2
          (try simp only [Exit.inBlock, Exit.then])
          refine bodyPost_ret (results_ev rfl _ _ (w.heap.size + 1) rfl (EvAt.all HV4.out)) rfl ?_
          rw [HE.out]
          exact ⟨by rw [HEV.out], ev_end H4.out HB4.out (Plus.sub HR.out.2.1.size) (plus_ne hF (by omega) HZ.out) (by omega) hlt HN.out _ _ _ _ _ _⟩
        · have d8 : ((k : Int) == 8) = false := by simp; omega
          have d6 : ((k : Int) == 6) = true := by simp; omega
          have HE : Hid (actSending k c s = sendAgain c s) := by exact HE0.out
          go_enter Tryz.func58, Tryz.ntmps58
          go_wp2_with fail
          refine (HXY.out _).mono ?_
          rintro e wz ⟨rfl, hwz⟩
          subst hwz
          go_wp2_with fail
          refine (sendAgain_any F b o s c _ HR.out.1 HFF.out HCK.out hq HP.out.qlen HP.out.qj HP.out.jm (HP.out.tr (Or.inr hm)).1 HMF.out HBL.out).mono ?_
          rintro e w4 ⟨rfl, h4, b4⟩
          have HV4 := hide (Ev0.bes HR.out.2.2.2 b4 hne1)
          have HB4 := hide (HR.out.2.1.trans b4)
          obtain ⟨⟨x0, x1, x2, x3, x4, x5⟩, q0, q1, q2, q3, q4, q5⟩ := HV4.out.all
          have H4 := hide h4
          obtain ⟨ek, est, en, eh, et, ec, hev⟩ := evV_form (sendAgain c s).2
          have HEV := hide hev
          rw [hev]
          clear h4 b4 hev
          go_wp2
          (try simp only [Exit.inBlock, Exit.then])
          refine bodyPost_ret (results_ev rfl _ _ (w.heap.size + 1) rfl (EvAt.all HV4.out)) rfl ?_
          rw [HE.out]
          exact ⟨by rw [HEV.out], ev_end H4.out HB4.out (Plus.sub HR.out.2.1.size) (plus_ne hF (by omega) HZ.out) (by omega) hlt HN.out _ _ _ _ _ _⟩
    · have d7 : ((k : Int) == 7) = false := by simp; omega
      have d8 : ((k : Int) == 8) = false := by simp; omega
      have d6 : ((k : Int) == 6) = false := by simp; omega
      by_cases h9 : k = 9
      · have d9 : ((k : Int) == 9) = true := by simp [h9]
        have HE : Hid (actSending k c s = putOff c s) := by rw [Hid, HAS.out, if_neg hy, if_neg h6, if_pos h9]
        go_enter Tryz.func58, Tryz.ntmps58
        go_wp2_with fail
        refine (HXY.out _).mono ?_
        rintro e wz ⟨rfl, hwz⟩
        subst hwz
        go_wp2_with fail
        refine (putOff_any F b o s c _ HR.out.1 HFF.out HP.out.qj HP.out.jm HP.out.qlen (HP.out.tr (Or.inr hm)).2).mono ?_
        rintro e w4 ⟨rfl, h4, b4⟩
        have HV4 := hide (Ev0.bes HR.out.2.2.2 b4 hne1)
        have HB4 := hide (HR.out.2.1.trans b4)
        obtain ⟨⟨x0, x1, x2, x3, x4, x5⟩, q0, q1, q2, q3, q4, q5⟩ := HV4.out.all
        have H4 := hide h4
        obtain ⟨ek, est, en, eh, et, ec, hev⟩ := evV_form (putOff c s).2
        have HEV := hide hev
        rw [hev]
        clear h4 b4 hev
        go_wp2
        (try simp only [Exit.inBlock, Exit.then])
        refine bodyPost_ret (results_ev rfl _ _ (w.heap.size + 1) rfl (EvAt.all HV4.out)) rfl ?_
        rw [HE.out]
        exact ⟨by rw [HEV.out], ev_end H4.out HB4.out (Plus.sub HR.out.2.1.size) (plus_ne hF (by omega) HZ.out) (by omega) hlt HN.out _ _ _ _ _ _⟩
      · have d9 : ((k : Int) == 9) = false := by simp; omega
        by_cases hw : s.wait = 0
        · have dw : ((s.wait : Int) == 0) = true := by simp [hw]
          have HE : Hid (actSending k c s = tryAgain 4 c s) := by rw [Hid, HAS.out, if_neg hy, if_neg h6, if_neg h9, if_pos hw]
          go_enter Tryz.func58, Tryz.ntmps58
          go_wp2_with fail
          refine (HXY.out _).mono ?_
          rintro e wz ⟨rfl, hwz⟩
          subst hwz
          go_wp2_with fail
          refine (tryAgain_any F b o s 4 c _ HR.out.1 HFF.out HP.out.qj HP.out.jm HP.out.qlen (HP.out.tr (Or.inr hm)).1 (by omega)).mono ?_
          rintro e w4 ⟨rfl, h4, b4⟩
          have HV4 := hide (Ev0.bes HR.out.2.2.2 b4 hne1)
          have HB4 := hide (HR.out.2.1.trans b4)
          obtain ⟨⟨x0, x1, x2, x3, x4, x5⟩, q0, q1, q2, q3, q4, q5⟩ := HV4.out.all
          have H4 := hide h4
          obtain ⟨ek, est, en, eh, et, ec, hev⟩ := evV_form (tryAgain 4 c s).2
          have HEV := hide hev
          rw [hev]
          clear h4 b4 hev
          go_wp2
          (try simp only [Exit.inBlock, Exit.then])
          refine bodyPost_ret (results_ev rfl _ _ (w.heap.size + 1) rfl (EvAt.all HV4.out)) rfl ?_
          rw [HE.out]
          exact ⟨by rw [HEV.out], ev_end H4.out HB4.out (Plus.sub HR.out.2.1.size) (plus_ne hF (by omega) HZ.out) (by omega) hlt HN.out _ _ _ _ _ _⟩
        · have dw : ((s.wait : Int) == 0) = false := by simp; omega
          have HE : Hid (actSending k c s = (s, none)) := by rw [Hid, HAS.out, if_neg hy, if_neg h6, if_neg h9, if_neg hw]
          go_enter Tryz.func58, Tryz.ntmps58
          go_wp2_with fail
          refine (HXY.out _).mono ?_
          rintro e wz ⟨rfl, hwz⟩
          subst hwz
          go_wp2
          (try simp only [Exit.inBlock, Exit.then])
          refine bodyPost_ret (results_ev rfl _ _ (w.heap.size + 1) rfl HR.out.2.2.2) rfl ?_
          rw [HE.out]
          exact ⟨rfl, HR.out.1.mono (fun _ => Or.inl) (fun x => x.elim HN.out (fun y => by omega)), HR.out.2.1⟩

end Go.Proofs.YtlbpjcphhocdkabGreatDoor

namespace Go.Proofs.YtlbpjcphhocdkabGreatDoor.Pst
open Go.Proofs.YtlbpjcphhocdkabGreatDoor.Mod

/-- A wait is never longer than it may be. -/
theorem act_wait {c : Cfg} (hc : c.Ok) (A : Ans) {p : PS} (h : p.wait ≤ 255) : (act A c p).1.wait ≤ 255 := by
  have h1 := hc.second
  have h2 := hc.reply
  have h3 := hc.lost
  have bw : ∀ s : PS, s.wait ≤ 255 → (beginWait c s).wait ≤ 255 := by
    intro s hs
    show wt c s ≤ 255
    unfold wt
    repeat' split
    all_goals omega
  have an : ∀ s : PS, s.wait ≤ 255 → (answer c s).wait ≤ 255 := by
    intro s hs
    unfold answer
    split
    · exact Nat.zero_le _
    · exact bw _ (Nat.zero_le _)
  have fi : ∀ (k : Nat) (s : PS), (finish k s).1.wait ≤ 255 := fun k s => Nat.zero_le _
  have off : ∀ s : PS, s.wait ≤ 255 → (putOff c s).1.wait ≤ 255 := by
    intro s hs
    unfold putOff
    split
    · exact fi _ _
    · exact bw _ hs
  have tr : ∀ (k : Nat) (s : PS), s.wait ≤ 255 → (tryAgain k c s).1.wait ≤ 255 := by
    intro k s hs
    unfold tryAgain
    split
    · exact fi _ _
    · exact bw _ hs
  have sn : ∀ (k : Nat) (s : PS), s.wait ≤ 255 → (send k c s).wait ≤ 255 := fun k s hs => bw _ hs
  have py : ∀ s : PS, s.wait ≤ 255 → (putYes s).wait ≤ 255 := by
    intro s hs
    unfold putYes
    split <;> exact hs
  have hl : (less p).wait ≤ 255 := by show p.wait - 1 ≤ 255; omega
  unfold act
  split
  · unfold actBidding
    split
    · exact sn _ _ hl
    · split
      · exact off _ hl
      · split
        · exact an _ hl
        · split
          · exact tr _ _ hl
          · exact hl
  · split
    · unfold actSending
      split
      · unfold sendNext
        split
        · exact fi _ _
        · exact sn _ _ hl
      · split
        · unfold sendAgain
          split
          · exact fi _ _
          · exact bw _ hl
        · split
          · exact off _ hl
          · split
            · exact tr _ _ hl
            · exact hl
    · split
      · unfold actReceiving
        split
        · unfold receive
          split
          · exact bw _ hl
          · split
            · exact py _ (bw _ hl)
            · exact py _ (bw _ hl)
        · split
          · exact bw _ hl
          · split
            · exact bw _ (py _ hl)
            · split
              · exact an _ hl
              · split
                · exact Nat.zero_le _
                · exact hl
      · show (actIdle (kindOf A) c (less p)).wait ≤ 255
        unfold actIdle
        split
        · exact an _ hl
        · split
          · exact bw _ hl
          · exact hl

/-- The line. -/
structure LRel (x : Ln) (p0 p1 : PS) : Prop where
  r0 : Rel x.now 0 x.s0 x.on0 p0
  r1 : Rel x.now 1 x.s1 x.on1 p1
theorem LRel.new (c : Cfg) : LRel (newL c) ⟨0, [], 0, false, [], 0, 0, 0, 0, 0, false, 0, [], [], 0⟩ ⟨1, [], 0, false, [], 0, 0, 0, 0, 0, false, 0, [], [], 0⟩ :=
  ⟨⟨rfl, rfl, rfl, rfl, rfl, rfl, rfl, by simp [newL, newS], by simp [newL, newS], by simp [newL, newS], by simp [newL, newS]⟩, ⟨rfl, rfl, rfl, rfl, rfl, rfl, rfl, by simp [newL, newS], by simp [newL, newS], by simp [newL, newS], by simp [newL, newS]⟩⟩
theorem rel_clear {now i : Nat} {s : Stn} {l : List UInt8} {p : PS} (h : Rel now i s l p) : Rel now i s [] { p with put := [] } := ⟨h.side, h.q, h.joined, h.busy, rfl, h.mode, h.rest, h.wait, h.own, h.block, h.got⟩
/-- What the program's line does in a tick is what the document's does. -/
theorem tick_rel {x : Ln} {p0 p1 : PS} {q0 q1 : Put} (h : LRel x p0 p1) (h0 : StOk x.c x.now 0 x.s0 q0) (h1 : StOk x.c x.now 1 x.s1 q1) :
    LRel (tick x) (act (if p0.put ≠ [] then .none 0 else hear x.c p1.put) x.c { p0 with put := [] }).1 (act (if p1.put ≠ [] then .none 0 else hear x.c p0.put) x.c { p1 with put := [] }).1 ∧
    (act (if p0.put ≠ [] then .none 0 else hear x.c p1.put) x.c { p0 with put := [] }).2.toList ++ (act (if p1.put ≠ [] then .none 0 else hear x.c p0.put) x.c { p1 with put := [] }).2.toList = events x := by
  have e0 : (if p0.put ≠ [] then .none 0 else hear x.c p1.put : Ans) = hears0 x := by unfold hears0; rw [h.r0.put, h.r1.put]
  have e1 : (if p1.put ≠ [] then .none 0 else hear x.c p0.put : Ans) = hears1 x := by unfold hears1; rw [h.r0.put, h.r1.put]
  have a0 := act_rel (c := x.c) (hears0 x) (rel_clear h.r0) h0 (Or.inl rfl)
  have a1 := act_rel (c := x.c) (hears1 x) (rel_clear h.r1) h1 (Or.inr rfl)
  rw [e0, e1]
  refine ⟨⟨a0.1, a1.1⟩, ?_⟩
  rw [a0.2, a1.2]
  rfl

/-- So the program's fields are within theirs. -/
theorem psok {c : Cfg} {now i : Nat} {s : Stn} {q : Put} {l : List UInt8} {p : PS} (hc : c.Ok) (hr : Rel now i s l p) (hs : StOk c now i s q) (hb : StB c now s) (hj : s.joined ≤ 1000000000000000) (hwt : p.wait ≤ 255) : PSOk c p := by
  have ht := hc.tries
  have hw := hc.waits
  have hlo := hc.lost
  have hse := hc.second
  have hre := hc.reply
  have hm3 := hs.mode
  have hrest := hb.rest
  refine ⟨by rw [hr.q]; have := hb.qlen; omega, by rw [hr.q, hr.joined]; exact hb.qj, by rw [hr.joined]; exact hj, by rw [hr.q]; exact hb.fit, ?_, ?_, ?_, ?_, by omega, by rw [hr.rest]; omega⟩
  · rw [hr.mode, hr.q]; exact hs.que
  · rw [hr.mode]
    intro hm
    obtain ⟨o1, o2, _⟩ := hr.own hm
    rw [o1, o2]
    have := hb.off hm
    rcases hm with hm | hm
    · have := (hs.bid hm).2.2.2; omega
    · have := (hs.snd hm).2.2.2; omega
  · rw [hr.mode]
    intro hm
    rw [hr.block hm]
    show s.block < nblk c (p.q.headD noMsg)
    rw [hr.q]
    exact hb.blk hm
  · rw [hr.mode]
    intro hm
    obtain ⟨g1, g2, g3⟩ := hr.got hm
    rw [g1, g2, g3]
    exact ⟨yes_or _, hb.got hm⟩

end Go.Proofs.YtlbpjcphhocdkabGreatDoor.Pst

namespace Go.Proofs.YtlbpjcphhocdkabGreatDoor
open Go.RowKit Go.Proofs.YtlbpjcphhocdkabGreatDoor.Mod Go.Proofs.YtlbpjcphhocdkabGreatDoor.Pst

set_option maxHeartbeats 1000000 in
theorem putYes_any (F : Nat → Prop) (b o : Nat) (s : PS) (w : World) (h : StAt w F b o s) (hy : s.yes = 7 ∨ s.yes = 8) :
    Calls Tryz.prog 85 #[.pointer (some ⟨b, o, none⟩)] w fun e w' => Does w F b o (putYes s) e w' := by
  have hlt := h.lt
  have c3 := h.busy
  have c14 := h.yes
  have H := hide h
  have HY : Hid (3 ≤ s.yes ∧ s.yes ≤ 9) := by unfold Hid; omega
  clear h hy
  cases hb : s.busy
  · have HE : Hid (putYes s = putShort s.yes s) := by simp [Hid, putYes, hb]
    rw [hb] at c3
    go_enter Tryz.func85, Tryz.ntmps85
    go_wp2_with fail
    refine (putShort_any F b o s s.yes _ H.out HY.out).mono ?_
    rintro e w1 ⟨rfl, h1, b1⟩
    go_wp2
    go_end0
    rw [HE.out]
    exact ⟨rfl, h1, b1⟩
  · have HE : Hid (putYes s = putShort 9 s) := by simp [Hid, putYes, hb]
    rw [hb] at c3
    go_enter Tryz.func85, Tryz.ntmps85
    go_wp2_with fail
    refine (putShort_any F b o s 9 _ H.out (by omega)).mono ?_
    rintro e w1 ⟨rfl, h1, b1⟩
    go_wp2
    go_end0
    rw [HE.out]
    exact ⟨rfl, h1, b1⟩

theorem flat_take (l : List ByteArray) (k : Nat) (h : k < l.length) : ((datas l).take (k + 1)).flatten = ((datas l).take k).flatten ++ (l.getD k ByteArray.empty).data.toList := by
  rw [List.take_add_one, List.getElem?_eq_getElem (by rw [datas_length]; exact h)]
  simp [datas, List.getD, List.getElem?_eq_getElem h]
theorem flat_len (l : List ByteArray) (hs : ∀ i, (l.getD i ByteArray.empty).size ≤ 32) : ∀ k, k ≤ l.length → ((datas l).take k).flatten.length ≤ k * 32
  | 0, _ => by simp
  | k + 1, h => by
    rw [flat_take l k (by omega), List.length_append, size_list]
    have := flat_len l hs k (by omega)
    have := hs k
    omega

set_option maxHeartbeats 1000000 in
set_option maxRecDepth 1000000 in
theorem textOf_any (a : Option Addr) (l : List ByteArray) (cap : Nat) (w : World) (hn : 1 ≤ l.length ∧ l.length ≤ 4) (hs : ∀ i, (l.getD i ByteArray.empty).size ≤ 32) (ht : Texts w a l) :
    Calls Tryz.prog 104 #[.slice a l.length cap] w fun e w' => e = .returned (.string ⟨(datas l).flatten.toArray⟩) ∧ w' = w := by
  obtain ⟨g, of, rfl, hc⟩ : ∃ g of, a = some ⟨g, of, none⟩ ∧ ∀ i, i < l.length → w.cell? ⟨g, of + i, none⟩ = some (.string (l.getD i ByteArray.empty)) := by
    rcases ht with h | h
    · subst h; simp at hn
    · exact h
  have HC := hide hc
  have HS := hide hs
  have hn4 := hn.2
  have HFL := hide (flat_len l hs)
  clear hc hs ht hn
  go_enter Tryz.func104, Tryz.ntmps104
  go_wp2
  go_loopw [3, 4] (fun x i wr => ∃ (k : Nat) (xs : ByteArray), k ≤ l.length ∧ i = .int .i64 k ∧ x = .string xs ∧ Hid (Is xs ((datas l).take k).flatten) ∧ wr = w) (fun _ i _ => l.length - (intOf i).toNat)
  case atStart => exact ⟨0, _, by omega, rfl, rfl, Is.mk _, rfl⟩
  case round =>
    obtain ⟨k, xs, hk, rfl, rfl, HX, rfl⟩ := hrel
    by_cases hlt : k < l.length
    · have hlt' : (k : Int) < (l.length : Int) := by omega
      have hcell := HC.out k hlt
      have hst := HS.out k
      have HT := hide (flat_take l k hlt)
      have hxs : xs.size ≤ 128 := by
        rw [HX.out.size]
        have := HFL.out k (by omega)
        omega
      generalize l.getD k ByteArray.empty = st at *
      go_wp2
      go_roundw
      case rel => exact ⟨k + 1, _, by omega, by go_num, rfl, by rw [Hid, HT.out]; exact HX.out.append (Is.self st), trivial⟩
      case measure => simp [intOf]; omega
    · obtain rfl : k = l.length := by omega
      have hlt' : ¬ (l.length : Int) < (l.length : Int) := by omega
      have HT : Hid ((datas l).take l.length = datas l) := List.take_of_length_le (by rw [datas_length]; exact Nat.le_refl _)
      go_wp2
      go_ret
      have e := HX.out
      rw [HT.out] at e
      unfold Is at e
      exact ⟨by rw [e]; rfl, rfl⟩

end Go.Proofs.YtlbpjcphhocdkabGreatDoor

namespace Go.Proofs.YtlbpjcphhocdkabGreatDoor
open Go.RowKit Go.Proofs.YtlbpjcphhocdkabGreatDoor.Mod Go.Proofs.YtlbpjcphhocdkabGreatDoor.Pst

/-- A block as a value: its texts lie in memory. -/
def BkV (w : World) (x : Value) (bk : Bk) : Prop :=
  ∃ a cap lb, x = .agg #[.string ⟨bk.head.toArray⟩, .slice a (List.length lb) cap, .bool bk.clear, .bool bk.last] ∧ Texts w a lb ∧ datas lb = bk.parts ∧ Blk.berr bk.head bk.parts bk.clear = 0

theorem Bes.tx {w w' : World} {b o : Nat} {a : Option Addr} {l : List ByteArray} (h : Texts w a l) (k : Bes b o w w') (hn : ∀ g of, a = some ⟨g, of, none⟩ → l ≠ [] → g ≠ b) : Texts w' a l := by
  rcases h with h | ⟨g, of, e, h⟩
  · exact Or.inl h
  · by_cases hl : l = []
    · exact Or.inl hl
    · refine Or.inr ⟨g, of, e, fun i hi => ?_⟩
      have h1 := h i hi
      have hlt := World.block_lt_of_cell? w _ h1
      rw [← h1]
      exact World.cell?_of_block (k.block g hlt (hn g of e hl))

theorem EvAt.drew' {w : World} {g : Nat} {v0 v1 v2 v3 v4 v5 : Value} (h : EvAt w g v0 v1 v2 v3 v4 v5) : EvAt w.drew g v0 v1 v2 v3 v4 v5 := h

theorem str_app (l r : List UInt8) : (⟨l.toArray⟩ : ByteArray) ++ ⟨r.toArray⟩ = ⟨(l ++ r).toArray⟩ := ba_append l r

set_option maxHeartbeats 600000 in
set_option maxRecDepth 1000000 in
theorem receive_any (F : Nat → Prop) (b o : Nat) (s : PS) (bk : Bk) (x : Value) (w : World) (h : StAt w F b o s) (hF : ∀ x, F x → x < w.heap.size) (hx : BkV w x bk) (hy : s.yes = 7 ∨ s.yes = 8) (hh : s.head.length ≤ 8) (ht : s.text.length ≤ 200) :
    Calls Tryz.prog 83 #[.pointer (some ⟨b, o, none⟩), x] w fun e w' => Tells w F b o (receive bk s) e w' := by
  obtain ⟨a, cap, lb, rfl, htx, hd, hok⟩ := hx
  obtain ⟨g1, g2, g3, g4⟩ := Blk.berr_ok hok
  have hbh : bk.head.length ≤ 8 := Blk.headOk_le g1
  have hlb : 1 ≤ lb.length ∧ lb.length ≤ 4 := by rw [← datas_length, hd]; exact ⟨g2, g3⟩
  have hls : ∀ i, (lb.getD i ByteArray.empty).size ≤ 32 := getD_le (by rw [hd]; exact Blk.parts_le g4)
  have hfl : bk.parts.flatten.length ≤ 128 := by
    have := flat_len lb hls lb.length (Nat.le_refl _)
    rw [List.take_of_length_le (by rw [datas_length]; exact Nat.le_refl _), hd] at this
    omega
  have hlt := h.lt
  have hne : b ≠ w.heap.size := by omega
  have hne1 : b ≠ w.heap.size + 1 := by omega
  have HN := hide h.nb
  have HR : Hid (StAt ((w.alloc (.cells #[.string ⟨bk.head.toArray⟩, .slice a lb.length cap, .bool bk.clear, .bool bk.last] 89)).alloc (.cells zeroEv 38)) F b o s ∧ Bes b o w ((w.alloc (.cells #[.string ⟨bk.head.toArray⟩, .slice a lb.length cap, .bool bk.clear, .bool bk.last] 89)).alloc (.cells zeroEv 38))
      ∧ BlkAt ((w.alloc (.cells #[.string ⟨bk.head.toArray⟩, .slice a lb.length cap, .bool bk.clear, .bool bk.last] 89)).alloc (.cells zeroEv 38)) w.heap.size (.string ⟨bk.head.toArray⟩) (.slice a lb.length cap) (.bool bk.clear) (.bool bk.last)
      ∧ Ev0 ((w.alloc (.cells #[.string ⟨bk.head.toArray⟩, .slice a lb.length cap, .bool bk.clear, .bool bk.last] 89)).alloc (.cells zeroEv 38)) (w.heap.size + 1)
      ∧ Texts ((w.alloc (.cells #[.string ⟨bk.head.toArray⟩, .slice a lb.length cap, .bool bk.clear, .bool bk.last] 89)).alloc (.cells zeroEv 38)) a lb) :=
    ⟨(h.alloc _).alloc _, ((Bes.refl b o w).alloc hlt _).alloc (by simp; omega) _, (BlkAt.at rfl _ _ _ _).below ((Below.refl _ _).alloc (Nat.le_refl _) _) (by simp), EvAt.new (by simp) _ _ _ _ _ _, htx.below (Below.allocN (Below.allocN (Below.refl _ _) _) _)⟩
  have HTO : Hid (∀ W, Texts W a lb → Calls Tryz.prog 104 #[.slice a lb.length cap] W fun e w' => e = .returned (.string ⟨bk.parts.flatten.toArray⟩) ∧ w' = W) := fun W hW => by
    have := textOf_any a lb cap W hlb hls hW
    rw [hd] at this
    exact this
  have HY := hide hy
  have a1 : ∀ W, (Op.stringOp .add ⟨s.head.toArray⟩ ⟨bk.head.toArray⟩).run Tryz.prog W = .ok (.string ⟨(s.head ++ bk.head).toArray⟩) W := fun W => by
    rw [← str_app]
    exact run_string_add_sum W _ _ (by show s.head.length + bk.head.length ≤ _; omega)
  have a2 : ∀ W, (Op.stringOp .add ⟨s.text.toArray⟩ ⟨bk.parts.flatten.toArray⟩).run Tryz.prog W = .ok (.string ⟨(s.text ++ bk.parts.flatten).toArray⟩) W := fun W => by
    rw [← str_app]
    exact run_string_add_sum W _ _ (by show s.text.length + bk.parts.flatten.length ≤ _; omega)
  have hlh : (⟨(s.head ++ bk.head).toArray⟩ : ByteArray).size = (s.head ++ bk.head).length := rfl
  have hlt2 : (⟨(s.text ++ bk.parts.flatten).toArray⟩ : ByteArray).size = (s.text ++ bk.parts.flatten).length := rfl
  have hHl : (s.head ++ bk.head).length ≤ 1000 := by simp; omega
  have hTl : (s.text ++ bk.parts.flatten).length ≤ 1000 := by simp only [List.length_append]; omega
  clear h htx hd hok g1 g2 g3 g4 hlb hls hy
  go_enter Tryz.func83, Tryz.ntmps83
  go_wp2_with fail
  refine wp_at (fun W => StAt W F b o s ∧ Bes b o w W ∧ BlkAt W w.heap.size (.string ⟨bk.head.toArray⟩) (.slice a lb.length cap) (.bool bk.clear) (.bool bk.last) ∧ Ev0 W (w.heap.size + 1) ∧ Texts W a lb) HR.out ?_
  rintro W ⟨h0, B0, X0, E0, T0⟩
  have c12 := h0.head
  have p0 := X0.cell0
  have H0 := hide h0
  have BB0 := hide B0
  have XX0 := hide X0
  have EE0 := hide E0
  have TT0 := hide T0
  clear h0 B0 X0 E0 T0 HR
  go_quiet (fail)
  go_wp2_with fail
  refine wp_at (fun W => StAt W F b o s ∧ Bes b o w W ∧ BlkAt W w.heap.size (.string ⟨bk.head.toArray⟩) (.slice a lb.length cap) (.bool bk.clear) (.bool bk.last) ∧ Ev0 W (w.heap.size + 1) ∧ Texts W a lb) ⟨H0.out.drewN _, BB0.out.drewN _, XX0.out, EE0.out.drewN _, TT0.out.below (below_drewN (Below.refl _ _) _)⟩ ?_
  clear c12 p0 H0 BB0 XX0 EE0 TT0
  rintro W1 ⟨h0, B0, X0, E0, T0⟩
  have c13 := h0.text
  have p1 := X0.cell1
  have H0 := hide h0
  have BB0 := hide B0
  have XX0 := hide X0
  have EE0 := hide E0
  have TT0 := hide T0
  clear h0 B0 X0 E0 T0
  go_quiet ((go_at_call 104; exact Calls.quiet_of_same (HTO.out _ (TT0.out.below (below_drewN (Below.refl _ _) _)))))
  refine exit_at (fun W => StAt W F b o s ∧ Bes b o w W ∧ BlkAt W w.heap.size (.string ⟨bk.head.toArray⟩) (.slice a lb.length cap) (.bool bk.clear) (.bool bk.last) ∧ Ev0 W (w.heap.size + 1)) ⟨H0.out.drewN _, BB0.out.drewN _, XX0.out, EE0.out.drewN _⟩ ?_
  clear c13 p1 H0 BB0 XX0 EE0 TT0 a1 a2
  rintro W2 ⟨h0, B0, X0, E0⟩
  have HR : Hid (receive bk s = if (s.head ++ bk.head).length > 8 ∨ (s.text ++ bk.parts.flatten).length > 200 then (putShort 6 s, none) else if bk.last then ({ putYes { s with head := s.head ++ bk.head, text := s.text ++ bk.parts.flatten, yes := otherYes s.yes } with head := [], text := [] }, some ⟨1, s.side, 0, ⟨s.head ++ bk.head, s.text ++ bk.parts.flatten, bk.clear⟩⟩) else (putYes { s with head := s.head ++ bk.head, text := s.text ++ bk.parts.flatten, yes := otherYes s.yes }, none)) := rfl
  generalize s.head ++ bk.head = NH at *
  generalize s.text ++ bk.parts.flatten = NT at *
  have H0 := hide h0
  have BB0 := hide B0
  have XX0 := hide X0
  have EE0 := hide E0
  have hz := E0.lt
  clear h0 B0 X0 E0
  by_cases hbig : NH.length > 8 ∨ NT.length > 200
  · have HE : Hid (receive bk s = (putShort 6 s, none)) := by rw [Hid, HR.out, if_pos hbig]
    by_cases h8 : NH.length > 8
    · have d8 : (8 : Int) < (NH.length : Int) := by omega
      go_wp2_with fail
      refine (putShort_any F b o s 6 _ H0.out (by omega)).mono ?_
      rintro e w3 ⟨rfl, HX, BX⟩
      have HV4 := hide (Ev0.bes EE0.out BX hne1)
      have HB4 := hide (BB0.out.trans BX)
      obtain ⟨⟨x0, x1, x2, x3, x4, x5⟩, q0, q1, q2, q3, q4, q5⟩ := HV4.out.all
      have H4 := hide HX
      clear HX BX
      go_wp2
      (try simp only [Exit.inBlock, Exit.then])
      refine bodyPost_ret (results_ev rfl _ _ (w.heap.size + 1) rfl (EvAt.all HV4.out)) rfl ?_
      rw [HE.out]
      exact ⟨rfl, ev_end H4.out HB4.out (fun _ => Or.inl) (own_ne hF (by omega)) (by omega) hlt HN.out _ _ _ _ _ _⟩
    · have d8 : ¬ (8 : Int) < (NH.length : Int) := by omega
      have d200 : (200 : Int) < (NT.length : Int) := by omega
      go_wp2_with fail
      refine (putShort_any F b o s 6 _ H0.out (by omega)).mono ?_
      rintro e w3 ⟨rfl, HX, BX⟩
      have HV4 := hide (Ev0.bes EE0.out BX hne1)
      have HB4 := hide (BB0.out.trans BX)
      obtain ⟨⟨x0, x1, x2, x3, x4, x5⟩, q0, q1, q2, q3, q4, q5⟩ := HV4.out.all
      have H4 := hide HX
      clear HX BX
      go_wp2
      (try simp only [Exit.inBlock, Exit.then])
      refine bodyPost_ret (results_ev rfl _ _ (w.heap.size + 1) rfl (EvAt.all HV4.out)) rfl ?_
      rw [HE.out]
      exact ⟨rfl, ev_end H4.out HB4.out (fun _ => Or.inl) (own_ne hF (by omega)) (by omega) hlt HN.out _ _ _ _ _ _⟩
  · have d8 : ¬ (8 : Int) < (NH.length : Int) := by omega
    have d200 : ¬ (200 : Int) < (NT.length : Int) := by omega
    have HE1 : Hid (receive bk s = if bk.last then ({ putYes { s with head := NH, text := NT, yes := otherYes s.yes } with head := [], text := [] }, some ⟨1, s.side, 0, ⟨NH, NT, bk.clear⟩⟩) else (putYes { s with head := NH, text := NT, yes := otherYes s.yes }, none)) := by rw [Hid, HR.out, if_neg hbig]
    clear hbig HR
    have c12 := H0.out.head
    have c13 := H0.out.text
    have c14 := H0.out.yes
    have f12 := H0.out.fz (o + 12)
    have f13 := H0.out.fz (o + 13)
    have f14 := H0.out.fz (o + 14)
    go_wp2_with fail
    refine (otherYes_any s.yes _ (by have := HY.out; omega)).mono ?_
    rintro e w3 ⟨rfl, hw3⟩
    obtain rfl := hw3.symm
    generalize hoy : otherYes s.yes = OY at *
    have hOY : OY = 7 ∨ OY = 8 := by rw [← hoy]; unfold otherYes; split <;> omega
    clear hoy
    go_wp2_with fail
    refine (putYes_any F b o _ _ (((H0.out.head' NH).text' NT).yes' OY) hOY).mono ?_
    rintro e w3 ⟨rfl, h3, b3⟩
    have BX := ((((Bes.refl b o W2).set 12 (by omega) (.string ⟨NH.toArray⟩)).set 13 (by omega) (.string ⟨NT.toArray⟩)).set 14 (by omega) (.int .i64 OY)).trans b3
    have X3 : BlkAt w3 w.heap.size (.string ⟨bk.head.toArray⟩) (.slice a lb.length cap) (.bool bk.clear) (.bool bk.last) := (BX.block w.heap.size (lt_of_block XX0.out) hne.symm).trans XX0.out
    have p3 := X3.cell3
    have p2 := X3.cell2
    clear c12 c13 c14 f12 f13 f14 b3 X3
    cases hla : bk.last
    · have HE : Hid (receive bk s = (putYes { s with head := NH, text := NT, yes := OY }, none)) := by rw [Hid, HE1.out, hla]; rfl
      rw [hla] at p3
      have HX := h3
      clear h3 HE1 hla
      have HV4 := hide (Ev0.bes EE0.out BX hne1)
      have HB4 := hide (BB0.out.trans BX)
      obtain ⟨⟨x0, x1, x2, x3, x4, x5⟩, q0, q1, q2, q3, q4, q5⟩ := HV4.out.all
      have H4 := hide HX
      clear HX BX
      go_wp2
      (try simp only [Exit.inBlock, Exit.then])
      refine bodyPost_ret (results_ev rfl _ _ (w.heap.size + 1) rfl (EvAt.all HV4.out)) rfl ?_
      rw [HE.out]
      exact ⟨rfl, ev_end H4.out HB4.out (fun _ => Or.inl) (own_ne hF (by omega)) (by omega) hlt HN.out _ _ _ _ _ _⟩
    · have HE : Hid (receive bk s = ({ putYes { s with head := NH, text := NT, yes := OY } with head := [], text := [] }, some ⟨1, s.side, 0, ⟨NH, NT, bk.clear⟩⟩)) := by rw [Hid, HE1.out, hla]; rfl
      rw [hla] at p3
      have HP3 := hide h3
      have e3 : (putYes { s with head := NH, text := NT, yes := OY }).yes = OY ∧ (putYes { s with head := NH, text := NT, yes := OY }).side = s.side := by unfold putYes; split <;> exact ⟨rfl, rfl⟩
      have c0 := h3.side
      have c12 := h3.head
      have c13 := h3.text
      have c14 := h3.yes
      have f12 := h3.fz (o + 12)
      have f13 := h3.fz (o + 13)
      have f14 := h3.fz (o + 14)
      rw [e3.1] at c14
      rw [e3.2] at c0
      have HV4 := hide (Ev0.bes EE0.out BX hne1)
      have HB4 := hide (BB0.out.trans BX)
      obtain ⟨⟨x0, x1, x2, x3, x4, x5⟩, q0, q1, q2, q3, q4, q5⟩ := HV4.out.all
      have hlt3 := h3.lt
      have HE3 := hide e3
      clear h3 HE1 hla BX e3
      generalize putYes { s with head := NH, text := NT, yes := OY } = PY at *
      go_wp2_with fail
      refine wp_at (fun W => StAt W F b o { PY with head := [], text := [], yes := OY } ∧ Bes b o w W ∧ Ev0 W (w.heap.size + 1) ∧ MsAt W w3.heap.size ⟨NH, NT, bk.clear⟩) ⟨(((HP3.out.head' []).text' []).yes' OY).alloc _, (((HB4.out.set 12 (by omega) _).set 13 (by omega) _).set 14 (by omega) _).alloc (by simpa using hlt3) _, ?_, MsAt.at (by simp) ⟨NH, NT, bk.clear⟩⟩ ?_
      · exact EvAt.alloc (EvAt.bes HV4.out ((((Bes.refl b o w3).set 12 (by omega) _).set 13 (by omega) _).set 14 (by omega) _) hne1) _
      clear c0 c12 c13 c14 f12 f13 f14 x0 x1 x2 x3 x4 x5 q0 q1 q2 q3 q4 q5 p2 p3
      rintro W4 ⟨h4, b4, e4, m4⟩
      have c0 := h4.side
      have hsd : PY.side = s.side := HE3.out.2
      simp only [hsd] at c0
      obtain ⟨m0, m1, m2⟩ := m4.cells
      simp only at m0 m1 m2
      obtain ⟨⟨x0, x1, x2, x3, x4, x5⟩, q0, q1, q2, q3, q4, q5⟩ := e4.all
      have HV5 := hide e4
      have HB5 := hide b4
      have H5 := hide h4
      have HYY : Hid (({ PY with head := [], text := [], yes := OY } : PS) = { PY with head := [], text := [] }) := by
        have := HE3.out.1
        unfold Hid
        rw [← this]
      clear h4 b4 e4 m4 hsd
      go_region
      go_wp2
      (try simp only [Exit.inBlock, Exit.then])
      refine bodyPost_ret (results_ev rfl _ _ (w.heap.size + 1) rfl (EvAt.drew' (EvAt.all HV5.out))) rfl ?_
      rw [HE.out]
      rw [HYY.out] at H5
      have kk := ev_end (g := w.heap.size + 1) H5.out HB5.out (fun _ => Or.inl) (own_ne hF (by omega)) (by omega) hlt HN.out (.int .i64 1) (.int .i64 s.side) (.int .i64 0) (.string ⟨NH.toArray⟩) (.string ⟨NT.toArray⟩) (.bool bk.clear)
      exact ⟨rfl, kk.1.drew, kk.2.drew⟩

end Go.Proofs.YtlbpjcphhocdkabGreatDoor
