/- What a station does in a tick: Idle, Bidding, Sending. -/
import Derived.Test.YtlbpjcphhocdkaaGreatQ06
set_option maxRecDepth 1000000
set_option maxHeartbeats 16000000
namespace Go.Proofs.YtlbpjcphhocdkaaGreat
open Go.RowKit Go.Proofs.YtlbpjcphhocdkaaGreat.Mod Go.Proofs.YtlbpjcphhocdkaaGreat.Pst
/-- What is known of a station's fields. -/
structure PSOk (c:Cfg) (s:PS):Prop where
 qlen:s.q.length ≤ 100
 qj:s.q.length ≤ s.joined
 jm:s.joined ≤ 1000000000000000
 fit:∀ m ∈ s.q,MsgFit m
 ne:s.mode = 1 ∨ s.mode = 2 → s.q ≠ []
 tr:s.mode = 1 ∨ s.mode = 2 → s.tries ≤ 1000 ∧ s.off ≤ 1000
 blk:s.mode = 2 → s.block < nblk c (message s)
 rcv:s.mode = 3 → (s.yes = 7 ∨ s.yes = 8) ∧ s.head.length ≤ 8 ∧ s.text.length ≤ 200
 wr:s.wait ≤ 1000 ∧ s.rest ≤ 1000
theorem PSOk.mfit {c:Cfg} {s:PS} (h:PSOk c s) (hq:s.q ≠ []):MsgFit (message s):=by
 apply h.fit
 unfold message
 cases hs:s.q with
 | nil=>exact absurd hs hq
 | cons a l=>simp
theorem evV_form (x:Option Ev):∃ (k st n:Int) (h t:ByteArray) (c:Bool),evV x = .agg #[.int .i64 k,.int .i64 st,.int .i64 n,.string h,.string t,.bool c]:=by
 cases x with
 | none=>exact ⟨_,_,_,_,_,_,rfl⟩
 | some e=>exact ⟨_,_,_,_,_,_,rfl⟩
set_option maxRecDepth 1000000 in
theorem actIdle_any (F:Nat → Prop) (b o:Nat) (s:PS) (k:Nat) (c:Cfg) (w:World) (h:StAt w F b o s) (hn:s.q.length ≤ 100) :
  Calls Tryz.prog 107 #[.pointer (some ⟨b,o,none⟩),.int .i64 k,cfgV c] w fun e w'=>Does w F b o (actIdle k c s) e w':=by
 have hlt:=h.lt
 have hne:b ≠ w.heap.size:=by omega
 have H:=hide (h.alloc (.cells (cfgCells c) 26))
 have HB:=hide ((Bes.refl b o w).alloc hlt (.cells (cfgCells c) 26))
 obtain ⟨v,c1,hv⟩:=h.que
 obtain ⟨a,cap,rfl⟩:=hv.form
 have c7:=h.rest
 clear hv h
 unfold cfgV
 by_cases h3:k = 3
 ·have HE:Hid (actIdle k c s = answer c s):=by simp [Hid,actIdle,h3]
  have d3:((k:Int) == 3) = true:=by simp [h3]
  clear h3
  go_enter Tryz.func107,Tryz.ntmps107
  go_wp2_with fail
  refine (answer_any F b o s c _ H.out).mono ?_
  rintro e w1 ⟨rfl,h1,b1⟩
  go_wp2
  go_end0
  rw [HE.out]
  exact ⟨rfl,h1,HB.out.trans b1⟩
 ·have d3:((k:Int) == 3) = false:=by simp; omega
  by_cases hq:s.q = []
  ·have HE:Hid (actIdle k c s = s):=by simp [Hid,actIdle,h3,hq]
   have dq:¬ (0:Int) < (s.q.length:Int):=by rw [hq]; simp
   generalize s.q.length = L at *
   clear h3 hq
   go_enter Tryz.func107,Tryz.ntmps107
   go_wp2
   go_end0
   rw [HE.out]
   exact ⟨rfl,H.out,HB.out⟩
  ·have dq:(0:Int) < (s.q.length:Int):=by have:=List.length_pos_iff.2 hq; omega
   generalize s.q.length = L at *
   by_cases hr:s.rest = 0
   ·have HE:Hid (actIdle k c s = bid c s):=by simp [Hid,actIdle,h3,hq,hr]
    rw [hr] at c7
    clear h3 hq
    go_enter Tryz.func107,Tryz.ntmps107
    go_wp2_with fail
    refine (bid_any F b o s c _ H.out).mono ?_
    rintro e w1 ⟨rfl,h1,b1⟩
    go_wp2
    go_end0
    rw [HE.out]
    exact ⟨rfl,h1,HB.out.trans b1⟩
   ·have HE:Hid (actIdle k c s = s):=by simp [Hid,actIdle,h3,hr]
    have dr:((s.rest:Int) == 0) = false:=by simp; omega
    clear h3 hq
    go_enter Tryz.func107,Tryz.ntmps107
    go_wp2
    go_end0
    rw [HE.out]
    exact ⟨rfl,H.out,HB.out⟩
set_option maxRecDepth 1000000 in
theorem actBidding_any (F:Nat → Prop) (b o:Nat) (s:PS) (k:Nat) (c:Cfg) (w:World) (h:StAt w F b o s) (hF:∀ x,F x → x < w.heap.size) (hc:c.Ok) (hp:PSOk c s) (hm:s.mode = 1) :
  Calls Tryz.prog 104 #[.pointer (some ⟨b,o,none⟩),.int .i64 k,cfgV c] w fun e w'=>Tells w F b o (actBidding k c s) e w':=by
 have hlt:=h.lt
 have hne:b ≠ w.heap.size:=by omega
 have hne1:b ≠ w.heap.size + 1:=by omega
 have HN:=hide h.nb
 have HCK:=hide hc
 have HP:=hide hp
 have hq:=hp.ne (by omega)
 have HMF:=hide (hp.mfit hq)
 have HR:Hid (StAt ((w.alloc (.cells (cfgCells c) 26)).alloc (.cells zeroEv 62)) F b o s ∧ Bes b o w ((w.alloc (.cells (cfgCells c) 26)).alloc (.cells zeroEv 62)) ∧ CfgAt ((w.alloc (.cells (cfgCells c) 26)).alloc (.cells zeroEv 62)) w.heap.size c ∧ Ev0 ((w.alloc (.cells (cfgCells c) 26)).alloc (.cells zeroEv 62)) (w.heap.size + 1)) :=
  ⟨(h.alloc _).alloc _,((Bes.refl b o w).alloc hlt _).alloc (by simp; omega) _,(CfgAt.at rfl c).alloc _,EvAt.new (by simp) _ _ _ _ _ _⟩
 have hFF:∀ x,F x → x < ((w.alloc (.cells (cfgCells c) 26)).alloc (.cells zeroEv 62)).heap.size:=fun x hx=>by have:=hF x hx; simp; omega
 have HFF:=hide hFF
 have hz:w.heap.size + 1 < ((w.alloc (.cells (cfgCells c) 26)).alloc (.cells zeroEv 62)).heap.size:=by simp
 have HZ:=hide hz
 have c0:=h.side
 have c6:=h.wait
 clear h hc hp hFF hz
 unfold cfgV
 by_cases h7:k = 7
 ·have d7:((k:Int) == 7) = true:=by simp [h7]
  have HE:Hid (actBidding k c s = (send 0 c s,none)):=by simp [Hid,actBidding,h7]
  go_enter Tryz.func104,Tryz.ntmps104
  go_wp2_with fail
  refine (send_any F b o s 0 c _ HR.out.1 HCK.out hq HP.out.qlen HMF.out (nblk_pos c _)).mono ?_
  rintro e w4 ⟨rfl,h4,b4⟩
  have HV4:=hide (Ev0.bes HR.out.2.2.2 b4 hne1)
  have HB4:=hide (HR.out.2.1.trans b4)
  obtain ⟨⟨x0,x1,x2,x3,x4,x5⟩,q0,q1,q2,q3,q4,q5⟩:=HV4.out.all
  have H4:=hide h4
  clear h4 b4
  go_wp2
  (try simp only [Exit.inBlock,Exit.then])
  refine bodyPost_ret (results_ev rfl _ _ (w.heap.size + 1) rfl (EvAt.all HV4.out)) rfl ?_
  rw [HE.out]
  exact ⟨rfl,ev_end H4.out HB4.out (fun _=>Or.inl) (own_ne hF (by omega)) (by omega) hlt HN.out _ _ _ _ _ _⟩
 ·have d7:((k:Int) == 7) = false:=by simp; omega
  by_cases h9:k = 9
  ·have d9:((k:Int) == 9) = true:=by simp [h9]
   have HE:Hid (actBidding k c s = putOff c s):=by simp [Hid,actBidding,h9]
   go_enter Tryz.func104,Tryz.ntmps104
   go_wp2_with fail
   refine (putOff_any F b o s c _ HR.out.1 HFF.out HP.out.qj HP.out.jm HP.out.qlen (HP.out.tr (Or.inl hm)).2).mono ?_
   rintro e w4 ⟨rfl,h4,b4⟩
   have HV4:=hide (Ev0.bes HR.out.2.2.2 b4 hne1)
   have HB4:=hide (HR.out.2.1.trans b4)
   obtain ⟨⟨x0,x1,x2,x3,x4,x5⟩,q0,q1,q2,q3,q4,q5⟩:=HV4.out.all
   have H4:=hide h4
   obtain ⟨ek,est,en,eh,et,ec,hev⟩:=evV_form (putOff c s).2
   have HEV:=hide hev
   rw [hev]
   clear h4 b4 hev
   go_wp2
   (try simp only [Exit.inBlock,Exit.then])
   refine bodyPost_ret (results_ev rfl _ _ (w.heap.size + 1) rfl (EvAt.all HV4.out)) rfl ?_
   rw [HE.out]
   exact ⟨by rw [HEV.out],ev_end H4.out HB4.out (Plus.sub HR.out.2.1.size) (plus_ne hF (by omega) HZ.out) (by omega) hlt HN.out _ _ _ _ _ _⟩
  ·have d9:((k:Int) == 9) = false:=by simp; omega
   by_cases h3:k = 3 ∧ s.side = 1
   ·have d3:((k:Int) == 3) = true:=by simp [h3.1]
    have ds:((s.side:Int) == 1) = true:=by simp [h3.2]
    have HE:Hid (actBidding k c s = (answer c s,none)):=by simp [Hid,actBidding,h3]
    go_enter Tryz.func104,Tryz.ntmps104
    go_wp2_with fail
    refine (answer_any F b o s c _ HR.out.1).mono ?_
    rintro e w4 ⟨rfl,h4,b4⟩
    have HV4:=hide (Ev0.bes HR.out.2.2.2 b4 hne1)
    have HB4:=hide (HR.out.2.1.trans b4)
    obtain ⟨⟨x0,x1,x2,x3,x4,x5⟩,q0,q1,q2,q3,q4,q5⟩:=HV4.out.all
    have H4:=hide h4
    clear h4 b4
    go_wp2
    (try simp only [Exit.inBlock,Exit.then])
    refine bodyPost_ret (results_ev rfl _ _ (w.heap.size + 1) rfl (EvAt.all HV4.out)) rfl ?_
    rw [HE.out]
    exact ⟨rfl,ev_end H4.out HB4.out (fun _=>Or.inl) (own_ne hF (by omega)) (by omega) hlt HN.out _ _ _ _ _ _⟩
   ·have d3:(((k:Int) == 3) && ((s.side:Int) == 1)) = false:=by
     simp only [Bool.and_eq_false_iff,beq_eq_false_iff_ne,ne_eq]
     omega
    by_cases hw:s.wait = 0
    ·rw [hw] at c6
     by_cases h3k:k = 3
     ·have d3k:((k:Int) == 3) = true:=by simp [h3k]
      have ds:((s.side:Int) == 1) = false:=by simp; omega
      have HE:Hid (actBidding k c s = tryAgain 3 c s):=by unfold Hid actBidding; rw [if_neg h7,if_neg h9,if_neg h3,if_pos hw]
      go_enter Tryz.func104,Tryz.ntmps104
      go_wp2_with fail
      refine (tryAgain_any F b o s 3 c _ HR.out.1 HFF.out HP.out.qj HP.out.jm HP.out.qlen (HP.out.tr (Or.inl hm)).1 (by omega)).mono ?_
      rintro e w4 ⟨rfl,h4,b4⟩
      have HV4:=hide (Ev0.bes HR.out.2.2.2 b4 hne1)
      have HB4:=hide (HR.out.2.1.trans b4)
      obtain ⟨⟨x0,x1,x2,x3,x4,x5⟩,q0,q1,q2,q3,q4,q5⟩:=HV4.out.all
      have H4:=hide h4
      obtain ⟨ek,est,en,eh,et,ec,hev⟩:=evV_form (tryAgain 3 c s).2
      have HEV:=hide hev
      rw [hev]
      clear h4 b4 hev
      go_wp2
      (try simp only [Exit.inBlock,Exit.then])
      refine bodyPost_ret (results_ev rfl _ _ (w.heap.size + 1) rfl (EvAt.all HV4.out)) rfl ?_
      rw [HE.out]
      exact ⟨by rw [HEV.out],ev_end H4.out HB4.out (Plus.sub HR.out.2.1.size) (plus_ne hF (by omega) HZ.out) (by omega) hlt HN.out _ _ _ _ _ _⟩
     ·have d3k:((k:Int) == 3) = false:=by simp; omega
      have HE:Hid (actBidding k c s = tryAgain 3 c s):=by unfold Hid actBidding; rw [if_neg h7,if_neg h9,if_neg h3,if_pos hw]
      go_enter Tryz.func104,Tryz.ntmps104
      go_wp2_with fail
      refine (tryAgain_any F b o s 3 c _ HR.out.1 HFF.out HP.out.qj HP.out.jm HP.out.qlen (HP.out.tr (Or.inl hm)).1 (by omega)).mono ?_
      rintro e w4 ⟨rfl,h4,b4⟩
      have HV4:=hide (Ev0.bes HR.out.2.2.2 b4 hne1)
      have HB4:=hide (HR.out.2.1.trans b4)
      obtain ⟨⟨x0,x1,x2,x3,x4,x5⟩,q0,q1,q2,q3,q4,q5⟩:=HV4.out.all
      have H4:=hide h4
      obtain ⟨ek,est,en,eh,et,ec,hev⟩:=evV_form (tryAgain 3 c s).2
      have HEV:=hide hev
      rw [hev]
      clear h4 b4 hev
      go_wp2
      (try simp only [Exit.inBlock,Exit.then])
      refine bodyPost_ret (results_ev rfl _ _ (w.heap.size + 1) rfl (EvAt.all HV4.out)) rfl ?_
      rw [HE.out]
      exact ⟨by rw [HEV.out],ev_end H4.out HB4.out (Plus.sub HR.out.2.1.size) (plus_ne hF (by omega) HZ.out) (by omega) hlt HN.out _ _ _ _ _ _⟩
    ·have dw:((s.wait:Int) == 0) = false:=by simp; omega
     by_cases h3k:k = 3
     ·have d3k:((k:Int) == 3) = true:=by simp [h3k]
      have ds:((s.side:Int) == 1) = false:=by simp; omega
      have HE:Hid (actBidding k c s = (s,none)):=by unfold Hid actBidding; rw [if_neg h7,if_neg h9,if_neg h3,if_neg hw]
      go_enter Tryz.func104,Tryz.ntmps104
      go_wp2
      (try simp only [Exit.inBlock,Exit.then])
      refine bodyPost_ret (results_ev rfl _ _ (w.heap.size + 1) rfl HR.out.2.2.2) rfl ?_
      rw [HE.out]
      exact ⟨rfl,HR.out.1.mono (fun _=>Or.inl) (fun x=>x.elim HN.out (fun y=>by omega)),HR.out.2.1⟩
     ·have d3k:((k:Int) == 3) = false:=by simp; omega
      have HE:Hid (actBidding k c s = (s,none)):=by unfold Hid actBidding; rw [if_neg h7,if_neg h9,if_neg h3,if_neg hw]
      go_enter Tryz.func104,Tryz.ntmps104
      go_wp2
      (try simp only [Exit.inBlock,Exit.then])
      refine bodyPost_ret (results_ev rfl _ _ (w.heap.size + 1) rfl HR.out.2.2.2) rfl ?_
      rw [HE.out]
      exact ⟨rfl,HR.out.1.mono (fun _=>Or.inl) (fun x=>x.elim HN.out (fun y=>by omega)),HR.out.2.1⟩
set_option maxRecDepth 1000000 in
theorem actSending_any (F:Nat → Prop) (b o:Nat) (s:PS) (k:Nat) (c:Cfg) (w:World) (h:StAt w F b o s) (hF:∀ x,F x → x < w.heap.size) (hc:c.Ok) (hp:PSOk c s) (hm:s.mode = 2) :
  Calls Tryz.prog 105 #[.pointer (some ⟨b,o,none⟩),.int .i64 k,cfgV c] w fun e w'=>Tells w F b o (actSending k c s) e w':=by
 have hlt:=h.lt
 have hne:b ≠ w.heap.size:=by omega
 have hne1:b ≠ w.heap.size + 1:=by omega
 have HN:=hide h.nb
 have HCK:=hide hc
 have HP:=hide hp
 have hq:=hp.ne (by omega)
 have HMF:=hide (hp.mfit hq)
 have HR:Hid (StAt ((w.alloc (.cells (cfgCells c) 26)).alloc (.cells zeroEv 62)) F b o s ∧ Bes b o w ((w.alloc (.cells (cfgCells c) 26)).alloc (.cells zeroEv 62)) ∧ CfgAt ((w.alloc (.cells (cfgCells c) 26)).alloc (.cells zeroEv 62)) w.heap.size c ∧ Ev0 ((w.alloc (.cells (cfgCells c) 26)).alloc (.cells zeroEv 62)) (w.heap.size + 1)) :=
  ⟨(h.alloc _).alloc _,((Bes.refl b o w).alloc hlt _).alloc (by simp; omega) _,(CfgAt.at rfl c).alloc _,EvAt.new (by simp) _ _ _ _ _ _⟩
 have hFF:∀ x,F x → x < ((w.alloc (.cells (cfgCells c) 26)).alloc (.cells zeroEv 62)).heap.size:=fun x hx=>by have:=hF x hx; simp; omega
 have HFF:=hide hFF
 have hz:w.heap.size + 1 < ((w.alloc (.cells (cfgCells c) 26)).alloc (.cells zeroEv 62)).heap.size:=by simp
 have HZ:=hide hz
 have HBL:=hide (hp.blk hm)
 have hbl:s.block ≤ 1000000000:=by
  rcases (block_lt hc s.block).1 (hp.blk hm) with h | h
  ·omega
  ·have h1:s.block * 1 ≤ s.block * (c.size * c.parts):=Nat.mul_le_mul_left _ (Nat.mul_le_mul hc.size.1 hc.parts.1)
   have:=(hp.mfit hq).2.1
   omega
 have c6:=h.wait
 have c11:=h.block
 have HAS:Hid (actSending k c s = if k = expectedYes s.block then sendNext c s else if k = 7 ∨ k = 8 ∨ k = 6 then sendAgain c s else if k = 9 then putOff c s else if s.wait = 0 then tryAgain 4 c s else (s,none)):=rfl
 clear h hc hp hFF hz
 unfold cfgV
 have HXY:=hide (fun W=>expectedYes_any s.block W hbl)
 generalize expectedYes s.block = EY at *
 by_cases hy:k = EY
 ·have dy:((k:Int) == (EY:Int)) = true:=by simp [hy]
  have HE:Hid (actSending k c s = sendNext c s):=by rw [Hid,HAS.out,if_pos hy]
  go_enter Tryz.func105,Tryz.ntmps105
  go_wp2_with fail
  refine (HXY.out _).mono ?_
  rintro e wz ⟨rfl,hwz⟩
  subst hwz
  go_wp2_with fail
  refine (sendNext_any F b o s c _ HR.out.1 HFF.out HCK.out hq HP.out.qlen HP.out.qj HP.out.jm HMF.out HBL.out).mono ?_
  rintro e w4 ⟨rfl,h4,b4⟩
  have HV4:=hide (Ev0.bes HR.out.2.2.2 b4 hne1)
  have HB4:=hide (HR.out.2.1.trans b4)
  obtain ⟨⟨x0,x1,x2,x3,x4,x5⟩,q0,q1,q2,q3,q4,q5⟩:=HV4.out.all
  have H4:=hide h4
  obtain ⟨ek,est,en,eh,et,ec,hev⟩:=evV_form (sendNext c s).2
  have HEV:=hide hev
  rw [hev]
  clear h4 b4 hev
  go_wp2
  (try simp only [Exit.inBlock,Exit.then])
  refine bodyPost_ret (results_ev rfl _ _ (w.heap.size + 1) rfl (EvAt.all HV4.out)) rfl ?_
  rw [HE.out]
  exact ⟨by rw [HEV.out],ev_end H4.out HB4.out (Plus.sub HR.out.2.1.size) (plus_ne hF (by omega) HZ.out) (by omega) hlt HN.out _ _ _ _ _ _⟩
 ·have dy:((k:Int) == (EY:Int)) = false:=by simp; omega
  by_cases h6:k = 7 ∨ k = 8 ∨ k = 6
  ·have HE0:Hid (actSending k c s = sendAgain c s):=by rw [Hid,HAS.out,if_neg hy,if_pos h6]
   by_cases h7:k = 7
   ·have d7:((k:Int) == 7) = true:=by simp [h7]
    have HE:Hid (actSending k c s = sendAgain c s):=by exact HE0.out
    go_enter Tryz.func105,Tryz.ntmps105
    go_wp2_with fail
    refine (HXY.out _).mono ?_
    rintro e wz ⟨rfl,hwz⟩
    subst hwz
    go_wp2_with fail
    refine (sendAgain_any F b o s c _ HR.out.1 HFF.out HCK.out hq HP.out.qlen HP.out.qj HP.out.jm (HP.out.tr (Or.inr hm)).1 HMF.out HBL.out).mono ?_
    rintro e w4 ⟨rfl,h4,b4⟩
    have HV4:=hide (Ev0.bes HR.out.2.2.2 b4 hne1)
    have HB4:=hide (HR.out.2.1.trans b4)
    obtain ⟨⟨x0,x1,x2,x3,x4,x5⟩,q0,q1,q2,q3,q4,q5⟩:=HV4.out.all
    have H4:=hide h4
    obtain ⟨ek,est,en,eh,et,ec,hev⟩:=evV_form (sendAgain c s).2
    have HEV:=hide hev
    rw [hev]
    clear h4 b4 hev
    go_wp2
    (try simp only [Exit.inBlock,Exit.then])
    refine bodyPost_ret (results_ev rfl _ _ (w.heap.size + 1) rfl (EvAt.all HV4.out)) rfl ?_
    rw [HE.out]
    exact ⟨by rw [HEV.out],ev_end H4.out HB4.out (Plus.sub HR.out.2.1.size) (plus_ne hF (by omega) HZ.out) (by omega) hlt HN.out _ _ _ _ _ _⟩
   ·have d7:((k:Int) == 7) = false:=by simp; omega
    by_cases h8:k = 8
    ·have d8:((k:Int) == 8) = true:=by simp [h8]
     have HE:Hid (actSending k c s = sendAgain c s):=by exact HE0.out
     go_enter Tryz.func105,Tryz.ntmps105
     go_wp2_with fail
     refine (HXY.out _).mono ?_
     rintro e wz ⟨rfl,hwz⟩
     subst hwz
     go_wp2_with fail
     refine (sendAgain_any F b o s c _ HR.out.1 HFF.out HCK.out hq HP.out.qlen HP.out.qj HP.out.jm (HP.out.tr (Or.inr hm)).1 HMF.out HBL.out).mono ?_
     rintro e w4 ⟨rfl,h4,b4⟩
     have HV4:=hide (Ev0.bes HR.out.2.2.2 b4 hne1)
     have HB4:=hide (HR.out.2.1.trans b4)
     obtain ⟨⟨x0,x1,x2,x3,x4,x5⟩,q0,q1,q2,q3,q4,q5⟩:=HV4.out.all
     have H4:=hide h4
     obtain ⟨ek,est,en,eh,et,ec,hev⟩:=evV_form (sendAgain c s).2
     have HEV:=hide hev
     rw [hev]
     clear h4 b4 hev
     go_wp2
     (try simp only [Exit.inBlock,Exit.then])
     refine bodyPost_ret (results_ev rfl _ _ (w.heap.size + 1) rfl (EvAt.all HV4.out)) rfl ?_
     rw [HE.out]
     exact ⟨by rw [HEV.out],ev_end H4.out HB4.out (Plus.sub HR.out.2.1.size) (plus_ne hF (by omega) HZ.out) (by omega) hlt HN.out _ _ _ _ _ _⟩
    ·have d8:((k:Int) == 8) = false:=by simp; omega
     have d6:((k:Int) == 6) = true:=by simp; omega
     have HE:Hid (actSending k c s = sendAgain c s):=by exact HE0.out
     go_enter Tryz.func105,Tryz.ntmps105
     go_wp2_with fail
     refine (HXY.out _).mono ?_
     rintro e wz ⟨rfl,hwz⟩
     subst hwz
     go_wp2_with fail
     refine (sendAgain_any F b o s c _ HR.out.1 HFF.out HCK.out hq HP.out.qlen HP.out.qj HP.out.jm (HP.out.tr (Or.inr hm)).1 HMF.out HBL.out).mono ?_
     rintro e w4 ⟨rfl,h4,b4⟩
     have HV4:=hide (Ev0.bes HR.out.2.2.2 b4 hne1)
     have HB4:=hide (HR.out.2.1.trans b4)
     obtain ⟨⟨x0,x1,x2,x3,x4,x5⟩,q0,q1,q2,q3,q4,q5⟩:=HV4.out.all
     have H4:=hide h4
     obtain ⟨ek,est,en,eh,et,ec,hev⟩:=evV_form (sendAgain c s).2
     have HEV:=hide hev
     rw [hev]
     clear h4 b4 hev
     go_wp2
     (try simp only [Exit.inBlock,Exit.then])
     refine bodyPost_ret (results_ev rfl _ _ (w.heap.size + 1) rfl (EvAt.all HV4.out)) rfl ?_
     rw [HE.out]
     exact ⟨by rw [HEV.out],ev_end H4.out HB4.out (Plus.sub HR.out.2.1.size) (plus_ne hF (by omega) HZ.out) (by omega) hlt HN.out _ _ _ _ _ _⟩
  ·have d7:((k:Int) == 7) = false:=by simp; omega
   have d8:((k:Int) == 8) = false:=by simp; omega
   have d6:((k:Int) == 6) = false:=by simp; omega
   by_cases h9:k = 9
   ·have d9:((k:Int) == 9) = true:=by simp [h9]
    have HE:Hid (actSending k c s = putOff c s):=by rw [Hid,HAS.out,if_neg hy,if_neg h6,if_pos h9]
    go_enter Tryz.func105,Tryz.ntmps105
    go_wp2_with fail
    refine (HXY.out _).mono ?_
    rintro e wz ⟨rfl,hwz⟩
    subst hwz
    go_wp2_with fail
    refine (putOff_any F b o s c _ HR.out.1 HFF.out HP.out.qj HP.out.jm HP.out.qlen (HP.out.tr (Or.inr hm)).2).mono ?_
    rintro e w4 ⟨rfl,h4,b4⟩
    have HV4:=hide (Ev0.bes HR.out.2.2.2 b4 hne1)
    have HB4:=hide (HR.out.2.1.trans b4)
    obtain ⟨⟨x0,x1,x2,x3,x4,x5⟩,q0,q1,q2,q3,q4,q5⟩:=HV4.out.all
    have H4:=hide h4
    obtain ⟨ek,est,en,eh,et,ec,hev⟩:=evV_form (putOff c s).2
    have HEV:=hide hev
    rw [hev]
    clear h4 b4 hev
    go_wp2
    (try simp only [Exit.inBlock,Exit.then])
    refine bodyPost_ret (results_ev rfl _ _ (w.heap.size + 1) rfl (EvAt.all HV4.out)) rfl ?_
    rw [HE.out]
    exact ⟨by rw [HEV.out],ev_end H4.out HB4.out (Plus.sub HR.out.2.1.size) (plus_ne hF (by omega) HZ.out) (by omega) hlt HN.out _ _ _ _ _ _⟩
   ·have d9:((k:Int) == 9) = false:=by simp; omega
    by_cases hw:s.wait = 0
    ·have dw:((s.wait:Int) == 0) = true:=by simp [hw]
     have HE:Hid (actSending k c s = tryAgain 4 c s):=by rw [Hid,HAS.out,if_neg hy,if_neg h6,if_neg h9,if_pos hw]
     go_enter Tryz.func105,Tryz.ntmps105
     go_wp2_with fail
     refine (HXY.out _).mono ?_
     rintro e wz ⟨rfl,hwz⟩
     subst hwz
     go_wp2_with fail
     refine (tryAgain_any F b o s 4 c _ HR.out.1 HFF.out HP.out.qj HP.out.jm HP.out.qlen (HP.out.tr (Or.inr hm)).1 (by omega)).mono ?_
     rintro e w4 ⟨rfl,h4,b4⟩
     have HV4:=hide (Ev0.bes HR.out.2.2.2 b4 hne1)
     have HB4:=hide (HR.out.2.1.trans b4)
     obtain ⟨⟨x0,x1,x2,x3,x4,x5⟩,q0,q1,q2,q3,q4,q5⟩:=HV4.out.all
     have H4:=hide h4
     obtain ⟨ek,est,en,eh,et,ec,hev⟩:=evV_form (tryAgain 4 c s).2
     have HEV:=hide hev
     rw [hev]
     clear h4 b4 hev
     go_wp2
     (try simp only [Exit.inBlock,Exit.then])
     refine bodyPost_ret (results_ev rfl _ _ (w.heap.size + 1) rfl (EvAt.all HV4.out)) rfl ?_
     rw [HE.out]
     exact ⟨by rw [HEV.out],ev_end H4.out HB4.out (Plus.sub HR.out.2.1.size) (plus_ne hF (by omega) HZ.out) (by omega) hlt HN.out _ _ _ _ _ _⟩
    ·have dw:((s.wait:Int) == 0) = false:=by simp; omega
     have HE:Hid (actSending k c s = (s,none)):=by rw [Hid,HAS.out,if_neg hy,if_neg h6,if_neg h9,if_neg hw]
     go_enter Tryz.func105,Tryz.ntmps105
     go_wp2_with fail
     refine (HXY.out _).mono ?_
     rintro e wz ⟨rfl,hwz⟩
     subst hwz
     go_wp2
     (try simp only [Exit.inBlock,Exit.then])
     refine bodyPost_ret (results_ev rfl _ _ (w.heap.size + 1) rfl HR.out.2.2.2) rfl ?_
     rw [HE.out]
     exact ⟨rfl,HR.out.1.mono (fun _=>Or.inl) (fun x=>x.elim HN.out (fun y=>by omega)),HR.out.2.1⟩
end Go.Proofs.YtlbpjcphhocdkaaGreat
