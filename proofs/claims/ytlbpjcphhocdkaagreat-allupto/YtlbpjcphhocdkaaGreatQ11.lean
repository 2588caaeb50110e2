/- Plain: the line as the program keeps it, against the document's; what stays within bounds. The program's line in memory, said by the document's line: what each call answers and leaves (all but Busy and Fault). Laws of .. -/
import Derived.Test.YtlbpjcphhocdkaaGreatQ07
import Derived.Test.YtlbpjcphhocdkaaGreatQ05
import Derived.Test.YtlbpjcphhocdkaaGreatQ09
import Derived.Test.YtlbpjcphhocdkaaGreatQ04
import Derived.Test.YtlbpjcphhocdkaaGreatQ10
import Derived.Test.YtlbpjcphhocdkaaGreatQ01
set_option maxRecDepth 1000000
set_option maxHeartbeats 16000000
namespace Go.Proofs.YtlbpjcphhocdkaaGreat.Pst
open Go.Proofs.YtlbpjcphhocdkaaGreat.Mod
/-- A wait is never longer than it may be. -/
theorem act_wait {c:Cfg} (hc:c.Ok) (A:Ans) {p:PS} (h:p.wait ≤ 255):(act A c p).1.wait ≤ 255:=by
 have h1:=hc.second
 have h2:=hc.reply
 have h3:=hc.lost
 have bw:∀ s:PS,s.wait ≤ 255 → (beginWait c s).wait ≤ 255:=by
  intro s hs
  show wt c s ≤ 255
  unfold wt
  repeat' split
  all_goals omega
 have an:∀ s:PS,s.wait ≤ 255 → (answer c s).wait ≤ 255:=by
  intro s hs
  unfold answer
  split
  ·exact Nat.zero_le _
  ·exact bw _ (Nat.zero_le _)
 have fi:∀ (k:Nat) (s:PS),(finish k s).1.wait ≤ 255:=fun k s=>Nat.zero_le _
 have off:∀ s:PS,s.wait ≤ 255 → (putOff c s).1.wait ≤ 255:=by
  intro s hs
  unfold putOff
  split
  ·exact fi _ _
  ·exact bw _ hs
 have tr:∀ (k:Nat) (s:PS),s.wait ≤ 255 → (tryAgain k c s).1.wait ≤ 255:=by
  intro k s hs
  unfold tryAgain
  split
  ·exact fi _ _
  ·exact bw _ hs
 have sn:∀ (k:Nat) (s:PS),s.wait ≤ 255 → (send k c s).wait ≤ 255:=fun k s hs=>bw _ hs
 have py:∀ s:PS,s.wait ≤ 255 → (putYes s).wait ≤ 255:=by
  intro s hs
  unfold putYes
  split <;> exact hs
 have hl:(less p).wait ≤ 255:=by show p.wait - 1 ≤ 255; omega
 unfold act
 split
 ·unfold actBidding
  split
  ·exact sn _ _ hl
  ·split
   ·exact off _ hl
   ·split
    ·exact an _ hl
    ·split
     ·exact tr _ _ hl
     ·exact hl
 ·split
  ·unfold actSending
   split
   ·unfold sendNext
    split
    ·exact fi _ _
    ·exact sn _ _ hl
   ·split
    ·unfold sendAgain
     split
     ·exact fi _ _
     ·exact bw _ hl
    ·split
     ·exact off _ hl
     ·split
      ·exact tr _ _ hl
      ·exact hl
  ·split
   ·unfold actReceiving
    split
    ·unfold receive
     split
     ·exact bw _ hl
     ·split
      ·exact py _ (bw _ hl)
      ·exact py _ (bw _ hl)
    ·split
     ·exact bw _ hl
     ·split
      ·exact bw _ (py _ hl)
      ·split
       ·exact an _ hl
       ·split
        ·exact Nat.zero_le _
        ·exact hl
   ·show (actIdle (kindOf A) c (less p)).wait ≤ 255
    unfold actIdle
    split
    ·exact an _ hl
    ·split
     ·exact bw _ hl
     ·exact hl
/-- The line. -/
structure LRel (x:Ln) (p0 p1:PS):Prop where
 r0:Rel x.now 0 x.s0 x.on0 p0
 r1:Rel x.now 1 x.s1 x.on1 p1
theorem LRel.new (c:Cfg):LRel (newL c) ⟨0,[],0,false,[],0,0,0,0,0,false,0,[],[],0⟩ ⟨1,[],0,false,[],0,0,0,0,0,false,0,[],[],0⟩ :=
 ⟨⟨rfl,rfl,rfl,rfl,rfl,rfl,rfl,by simp [newL,newS],by simp [newL,newS],by simp [newL,newS],by simp [newL,newS]⟩,⟨rfl,rfl,rfl,rfl,rfl,rfl,rfl,by simp [newL,newS],by simp [newL,newS],by simp [newL,newS],by simp [newL,newS]⟩⟩
theorem rel_clear {now i:Nat} {s:Stn} {l:List UInt8} {p:PS} (h:Rel now i s l p):Rel now i s [] { p with put:=[] }:=⟨h.side,h.q,h.joined,h.busy,rfl,h.mode,h.rest,h.wait,h.own,h.block,h.got⟩
/-- What the program's line does in a tick is what the document's does. -/
theorem tick_rel {x:Ln} {p0 p1:PS} {q0 q1:Put} (h:LRel x p0 p1) (h0:StOk x.c x.now 0 x.s0 q0) (h1:StOk x.c x.now 1 x.s1 q1) :
  LRel (tick x) (act (if p0.put ≠ [] then .none 0 else hear x.c p1.put) x.c { p0 with put:=[] }).1 (act (if p1.put ≠ [] then .none 0 else hear x.c p0.put) x.c { p1 with put:=[] }).1 ∧
  (act (if p0.put ≠ [] then .none 0 else hear x.c p1.put) x.c { p0 with put:=[] }).2.toList ++ (act (if p1.put ≠ [] then .none 0 else hear x.c p0.put) x.c { p1 with put:=[] }).2.toList = events x:=by
 have e0:(if p0.put ≠ [] then .none 0 else hear x.c p1.put:Ans) = hears0 x:=by unfold hears0; rw [h.r0.put,h.r1.put]
 have e1:(if p1.put ≠ [] then .none 0 else hear x.c p0.put:Ans) = hears1 x:=by unfold hears1; rw [h.r0.put,h.r1.put]
 have a0:=act_rel (c:=x.c) (hears0 x) (rel_clear h.r0) h0 (Or.inl rfl)
 have a1:=act_rel (c:=x.c) (hears1 x) (rel_clear h.r1) h1 (Or.inr rfl)
 rw [e0,e1]
 refine ⟨⟨a0.1,a1.1⟩,?_⟩
 rw [a0.2,a1.2]
 rfl
/-- So the program's fields are within theirs. -/
theorem psok {c:Cfg} {now i:Nat} {s:Stn} {q:Put} {l:List UInt8} {p:PS} (hc:c.Ok) (hr:Rel now i s l p) (hs:StOk c now i s q) (hb:StB c now s) (hj:s.joined ≤ 1000000000000000) (hwt:p.wait ≤ 255):PSOk c p:=by
 have ht:=hc.tries
 have hw:=hc.waits
 have hlo:=hc.lost
 have hse:=hc.second
 have hre:=hc.reply
 have hm3:=hs.mode
 have hrest:=hb.rest
 refine ⟨by rw [hr.q]; have:=hb.qlen; omega,by rw [hr.q,hr.joined]; exact hb.qj,by rw [hr.joined]; exact hj,by rw [hr.q]; exact hb.fit,?_,?_,?_,?_,by omega,by rw [hr.rest]; omega⟩
 ·rw [hr.mode,hr.q]; exact hs.que
 ·rw [hr.mode]
  intro hm
  obtain ⟨o1,o2,_⟩:=hr.own hm
  rw [o1,o2]
  have:=hb.off hm
  rcases hm with hm | hm
  ·have:=(hs.bid hm).2.2.2; omega
  ·have:=(hs.snd hm).2.2.2; omega
 ·rw [hr.mode]
  intro hm
  rw [hr.block hm]
  show s.block < nblk c (p.q.headD noMsg)
  rw [hr.q]
  exact hb.blk hm
 ·rw [hr.mode]
  intro hm
  obtain ⟨g1,g2,g3⟩:=hr.got hm
  rw [g1,g2,g3]
  exact ⟨yes_or _,hb.got hm⟩
end Go.Proofs.YtlbpjcphhocdkaaGreat.Pst
namespace Go.Proofs.YtlbpjcphhocdkaaGreat
open Go.RowKit Go.Proofs.YtlbpjcphhocdkaaGreat.Mod Go.Proofs.YtlbpjcphhocdkaaGreat.Pst
/-- The block b and those of F hold the line x. -/
def LineAt (w:World) (F:Nat → Prop) (b:Nat) (x:Ln):Prop :=
 ∃ p0 p1,LnAt w F b x.c p0 p1 ∧ LRel x p0 p1 ∧ p0.wait ≤ 255 ∧ p1.wait ≤ 255
section
variable {w w':World} {F G:Nat → Prop} {b:Nat} {x:Ln}
theorem LineAt.own (h:LineAt w F b x):F b:=by obtain ⟨_,_,h,_⟩:=h; exact h.own
theorem LineAt.mono (h:LineAt w F b x) (k:∀ g,F g → G g):LineAt w G b x:=by
 obtain ⟨p0,p1,h,r⟩:=h
 exact ⟨p0,p1,h.mono k,r⟩
theorem LineAt.keep (h:LineAt w F b x) (hs:w.heap.size ≤ w'.heap.size) (hk:∀ g,F g → g < w.heap.size → w'.heap[g]? = w.heap[g]?):LineAt w' F b x:=by
 obtain ⟨p0,p1,h,r⟩:=h
 exact ⟨p0,p1,h.keep hs hk,r⟩
theorem LineAt.below (h:LineAt w F b x) (k:Below w.heap.size w w'):LineAt w' F b x:=h.keep k.size fun g _ hg=>k.block g hg
/-- Only what is there is of it. -/
theorem LineAt.bound (h:LineAt w F b x):LineAt w (fun g=>F g ∧ g < w.heap.size) b x:=by
 obtain ⟨p0,p1,h,r⟩:=h
 obtain ⟨F0,F1,h0,h1,a,d,e⟩:=h.sts
 exact ⟨p0,p1,⟨⟨F0,F1,h0,h1,fun g hg=>⟨a g hg,(a g hg).2⟩,fun g hg=>⟨d g hg,(d g hg).2⟩,e⟩,h.cfg,h.own,h.lt⟩,r⟩
end
theorem tick_line (F:Nat → Prop) (b:Nat) (x:Ln) (w:World) (h:LineAt w F b x) (hg:LGood x) (j0:x.s0.joined ≤ 1000000000000000) (j1:x.s1.joined ≤ 1000000000000000) :
  Calls Tryz.prog 61 #[.pointer (some ⟨b,0,none⟩)] w fun e w'=>∃ v,e = .returned v ∧ OwnE w' w.heap.size v (events x) ∧ LineAt w' (fun g=>Plus F w g ∧ v.ownBlock ≠ some g) b (tick x) ∧ Fr (fun g=>g = b) w w':=by
 obtain ⟨p0,p1,hl,hr,w0,w1⟩:=h
 obtain ⟨q0,s0⟩:=hg.s0
 obtain ⟨q1,s1⟩:=hg.s1
 have o0:=psok hg.c hr.r0 s0 hg.b0 j0 w0
 have o1:=psok hg.c hr.r1 s1 hg.b1 j1 w1
 have l0:p0.put.length ≤ 140737488352000:=by rw [hr.r0.put]; have:=hg.o0; omega
 have l1:p1.put.length ≤ 140737488352000:=by rw [hr.r1.put]; have:=hg.o1; omega
 refine (tick_any F b x.c p0 p1 w hg.c hl o0 o1 l0 l1).mono ?_
 rintro e w' ⟨v,rfl,hv,hL,hf⟩
 obtain ⟨t1,t2⟩:=tick_rel hr s0 s1
 rw [t2] at hv
 exact ⟨v,rfl,hv,⟨_,_,hL,t1,act_wait hg.c _ w0,act_wait hg.c _ w1⟩,hf⟩
def onOf (x:Ln) (st:Int):List UInt8:=if st = 0 then x.on0 else if st = 1 then x.on1 else []
theorem onLine_line (F:Nat → Prop) (b:Nat) (x:Ln) (st:Int) (w:World) (h:LineAt w F b x) :
  Calls Tryz.prog 30 #[.pointer (some ⟨b,0,none⟩),.int .i64 st] w fun e w'=>e = .returned (.string ⟨(onOf x st).toArray⟩) ∧ Below w.heap.size w w':=by
 obtain ⟨p0,p1,hl,hr,_⟩:=h
 refine (onLine_any F b x.c p0 p1 st w hl).mono ?_
 rintro e w' ⟨rfl,hb⟩
 rw [hr.r0.put,hr.r1.put]
 exact ⟨rfl,hb⟩
def lookOf (x:Ln) (st:Int):Value:=if st = 0 then viewV x.s0.mode x.s0.queue.length x.s0.busy else if st = 1 then viewV x.s1.mode x.s1.queue.length x.s1.busy else viewV 0 0 false
theorem look_line (F:Nat → Prop) (b:Nat) (x:Ln) (st:Int) (w:World) (h:LineAt w F b x) :
  Calls Tryz.prog 28 #[.pointer (some ⟨b,0,none⟩),.int .i64 st] w fun e w'=>e = .returned (lookOf x st) ∧ Below w.heap.size w w':=by
 obtain ⟨p0,p1,hl,hr,_⟩:=h
 refine (look_any F b x.c p0 p1 st w hl).mono ?_
 rintro e w' ⟨rfl,hb⟩
 rw [hr.r0.mode,hr.r1.mode,hr.r0.q,hr.r1.q,hr.r0.busy,hr.r1.busy]
 exact ⟨rfl,hb⟩
theorem rel_sub {now i:Nat} {s:Stn} {l:List UInt8} {p:PS} (m:Msg) (h:Rel now i s l p):Rel now i (subS s m) l { p with q:=p.q ++ [m],joined:=p.joined + 1 } :=
 ⟨h.side,by simp [subS,h.q],by simp [subS,h.joined],h.busy,h.put,h.mode,h.rest,h.wait,h.own,h.block,h.got⟩
theorem submit_line (F:Nat → Prop) (b:Nat) (x:Ln) (st:Int) (m:Msg) (w:World) (h:LineAt w F b x) (hg:LGood x) (j0:x.s0.joined ≤ 100000000000000) (j1:x.s1.joined ≤ 100000000000000) (hh:m.head.length ≤ 140737488352000) (ht:m.text.length ≤ 140737488352000) :
  Calls Tryz.prog 32 #[.pointer (some ⟨b,0,none⟩),.int .i64 st,msgV m] w fun e w'=>e = .returned (.tuple #[.int .i64 (submitN x st m),.int .i64 (submitE x st m)]) ∧ LineAt w' (Plus F w) b (submitL x st m) ∧ Fr F w w':=by
 have same:∀ w',Below w.heap.size w w' → LineAt w' (Plus F w) b x ∧ Fr F w w':=fun w' hb=>⟨(h.below hb).mono fun _=>Or.inl,Fr.of_below hb⟩
 obtain ⟨p0,p1,hl,hr,w0,w1⟩:=h
 obtain ⟨F0,F1,a0,a1,f0,f1,f01⟩:=hl.sts
 have hlt:=hl.lt
 by_cases hs:st = 0 ∨ st = 1
 ·by_cases hd:Blk.headOk m.head = true
  ·by_cases hx:textOk m = true
   ·have hm:MsgFit m:=(fit_iff m).2 ⟨hd,hx⟩
    by_cases hq:x.c.queue ≤ (stnOf x st).queue.length
    ·have eE:submitE x st m = 8:=by unfold submitE; rw [if_neg (fun k=>k hs),if_neg (by simp [hd]),if_neg (by simp [hx]),if_pos hq]
     have eN:submitN x st m = 0:=by unfold submitN; rw [eE]; rfl
     have eL:submitL x st m = x:=by unfold submitL; rw [eE]; rfl
     rw [eE,eN,eL]
     rcases hs with rfl | rfl
     ·refine (submit_full F0 b 10 p0 x.c 0 m w a0 hl.cfg (Or.inl ⟨rfl,rfl⟩) hm (by rw [hr.r0.q]; exact hq)).mono ?_
      rintro e w' ⟨rfl,hb⟩
      exact ⟨rfl,same w' hb⟩
     ·refine (submit_full F1 b 25 p1 x.c 1 m w a1 hl.cfg (Or.inr ⟨rfl,rfl⟩) hm (by rw [hr.r1.q]; exact hq)).mono ?_
      rintro e w' ⟨rfl,hb⟩
      exact ⟨rfl,same w' hb⟩
    ·have eE:submitE x st m = 0:=by unfold submitE; rw [if_neg (fun k=>k hs),if_neg (by simp [hd]),if_neg (by simp [hx]),if_neg hq]
     have eN:submitN x st m = (stnOf x st).joined + 1:=by unfold submitN; rw [if_pos eE]
     rw [eE,eN]
     have hq8:=hg.c.queue.2
     rcases hs with rfl | rfl
     ·have eL:submitL x 0 m = { x with s0:=subS x.s0 m }:=by unfold submitL; rw [if_pos eE]; rfl
      rw [eL]
      refine (submit_ok F0 b 10 p0 x.c 0 m w a0 hl.cfg (Or.inl ⟨rfl,rfl⟩) hm (by rw [hr.r0.q]; exact Nat.lt_of_not_le hq) hq8 (by rw [hr.r0.joined]; exact j0)).mono ?_
      rintro e w' ⟨rfl,J⟩
      have hJ:=hr.r0.joined
      refine ⟨by rw [hJ]; rfl,⟨_,_,⟨⟨_,F1,J.st.bound,a1.keep (fun k hk=>J.cell _ (by omega)) J.froz (fun g hg hgl=>J.fr.block g hgl (fun k=>k.elim (fun e=>a1.nb (by rw [← e]; exact hg)) (fun k=>f01 g k hg))),?_,?_,?_⟩,hl.cfg.keep (fun i hi=>J.cell i (by omega)),Or.inl hl.own⟩,⟨rel_sub m hr.r0,hr.r1⟩,w0,w1⟩,J.fr.mono fun g k=>k.elim (fun e=>by rw [e]; exact hl.own) (fun k=>(f0 g k).1)⟩
      ·exact fun g k=>⟨k.1.imp (fun y=>(f0 g y).1) id,k.2⟩
      ·exact fun g k=>⟨Or.inl (f1 g k).1,Nat.lt_of_lt_of_le (f1 g k).2 J.fr.size⟩
      ·rintro g ⟨k | k,_⟩ k1
       ·exact f01 g k k1
       ·have:=(f1 g k1).2; omega
     ·have eL:submitL x 1 m = { x with s1:=subS x.s1 m }:=by unfold submitL; rw [if_pos eE]; rfl
      rw [eL]
      refine (submit_ok F1 b 25 p1 x.c 1 m w a1 hl.cfg (Or.inr ⟨rfl,rfl⟩) hm (by rw [hr.r1.q]; exact Nat.lt_of_not_le hq) hq8 (by rw [hr.r1.joined]; exact j1)).mono ?_
      rintro e w' ⟨rfl,J⟩
      have hJ:=hr.r1.joined
      refine ⟨by rw [hJ]; rfl,⟨_,_,⟨⟨F0,_,a0.keep (fun k hk=>J.cell _ (by omega)) J.froz (fun g hg hgl=>J.fr.block g hgl (fun k=>k.elim (fun e=>a0.nb (by rw [← e]; exact hg)) (fun k=>f01 g hg k))),J.st.bound,?_,?_,?_⟩,hl.cfg.keep (fun i hi=>J.cell i (by omega)),Or.inl hl.own⟩,⟨hr.r0,rel_sub m hr.r1⟩,w0,w1⟩,J.fr.mono fun g k=>k.elim (fun e=>by rw [e]; exact hl.own) (fun k=>(f1 g k).1)⟩
      ·exact fun g k=>⟨Or.inl (f0 g k).1,Nat.lt_of_lt_of_le (f0 g k).2 J.fr.size⟩
      ·exact fun g k=>⟨k.1.imp (fun y=>(f1 g y).1) id,k.2⟩
      ·rintro g k0 ⟨k | k,_⟩
       ·exact f01 g k0 k
       ·have:=(f0 g k0).2; omega
   ·have hx':textOk m = false:=by simpa using hx
    have eE:submitE x st m = 4:=by unfold submitE; rw [if_neg (fun k=>k hs),if_neg (by simp [hd]),if_pos hx']
    have eN:submitN x st m = 0:=by unfold submitN; rw [eE]; rfl
    have eL:submitL x st m = x:=by unfold submitL; rw [eE]; rfl
    rw [eE,eN,eL]
    refine (submit_text b st m w hs hd hx' ht).mono ?_
    rintro e w' ⟨rfl,hb⟩
    exact ⟨rfl,same w' hb⟩
  ·have hd':Blk.headOk m.head = false:=by simpa using hd
   have eE:submitE x st m = 2:=by unfold submitE; rw [if_neg (fun k=>k hs),if_pos hd']
   have eN:submitN x st m = 0:=by unfold submitN; rw [eE]; rfl
   have eL:submitL x st m = x:=by unfold submitL; rw [eE]; rfl
   rw [eE,eN,eL]
   refine (submit_head b st m w hs hd' hh).mono ?_
   rintro e w' ⟨rfl,hb⟩
   exact ⟨rfl,same w' hb⟩
 ·have eE:submitE x st m = 7:=by unfold submitE; rw [if_pos hs]
  have eN:submitN x st m = 0:=by unfold submitN; rw [eE]; rfl
  have eL:submitL x st m = x:=by unfold submitL; rw [eE]; rfl
  rw [eE,eN,eL]
  refine (submit_station b st m w hs).mono ?_
  rintro e w' ⟨rfl,hb⟩
  exact ⟨rfl,same w' hb⟩
theorem new_line (c:Cfg) (w:World) (hc:c.Ok) :
  Calls Tryz.prog 14 #[cfgV c] w fun e w'=>∃ b,e = .returned (.tuple #[.pointer (some ⟨b,0,none⟩),.int .i64 0]) ∧ w.heap.size ≤ b ∧ LineAt w' (New w) b (newL c) ∧ Below w.heap.size w w':=by
 refine (new_ok c w hc).mono ?_
 rintro e w' ⟨b,rfl,hb,hl,hB⟩
 exact ⟨b,rfl,hb,⟨_,_,hl,LRel.new c,Nat.zero_le _,Nat.zero_le _⟩,hB⟩
end Go.Proofs.YtlbpjcphhocdkaaGreat
namespace Go.Proofs.YtlbpjcphhocdkaaGreat
open Go.RowKit
/-- The slice value v,among the blocks from B on,holds just the bytes l; no cell of its row is frozen. -/
def AnyB (w:World) (B:Nat) (v:Value) (l:List UInt8):Prop :=
 ∃ g cap cur fz,v = .slice (some ⟨g,0,none⟩) l.length cap ∧ B ≤ g ∧ w.heap[g]? = some (.cells cur 5 fz) ∧ cur.size = cap ∧ l.length ≤ cap ∧ cur.toList.take l.length = bcells l ∧ (fz.2 = 0 ∨ cur.size ≤ fz.1)
theorem AnyB.of_cnv {w:World} {B:Nat} {v:Value} {l:List UInt8} (h:CnvB w B v l):AnyB w B v l:=by
 obtain ⟨g,cap,cur,h1,h2,h3,h4,h5,h6⟩:=h
 exact ⟨g,cap,cur,_,h1,h2,h3,h4,h5,h6,Or.inr (Nat.le_refl _)⟩
theorem any_cell {w:World} {g:Nat} {cur:Array Value} {fz:Nat × Nat} {l:List UInt8} (hg:w.heap[g]? = some (.cells cur 5 fz)) (ht:cur.toList.take l.length = bcells l) (j:Nat) (hj:j < l.length):w.cell? ⟨g,j,none⟩ = some (.int .u8 (l[j].toNat:Int)):=by
 rw [cell_of_row _ _ _ _ _ _ hg]
 have:(cur.toList.take l.length)[j]? = (bcells l)[j]?:=by rw [ht]
 rw [List.getElem?_take_of_lt hj] at this
 simp [bcells,List.getElem?_eq_getElem hj] at this
 simpa using this
theorem AnyB.conv {w:World} {B:Nat} {v:Value} {l:List UInt8} (h:AnyB w B v l):(convert 111 9 v).run Tryz.prog w = .ok (.string ⟨l.toArray⟩) w:=by
 obtain ⟨g,cap,cur,fz,rfl,_,hg,hc,hl,ht,_⟩:=h
 exact conv_cells w g cap l (any_cell hg ht)
theorem store_any (g o:Nat) (fz:Nat × Nat):∀ (vs:List Value) (i:Nat) (cur:Array Value) (w:World),w.heap[g]? = some (.cells cur 5 fz) → (fz.2 = 0 ∨ cur.size ≤ fz.1) → o + i + vs.length ≤ cur.size → (∀ v ∈ vs,v.oneCell' = true) →
  (storeCells ⟨g,o,none⟩ vs i).run Tryz.prog w = .ok () (w.setRow g (cur.toList.take (o + i) ++ vs ++ cur.toList.drop (o + i + vs.length)).toArray)
 | [],i,cur,w,hg,_,_,_=>by
  simp only [storeCells,List.append_nil,List.length_nil,Nat.add_zero,List.take_append_drop,Array.toArray_toList]
  rw [setRow_self w g cur 5 fz hg]
  rfl
 | v::rest,i,cur,w,hg,hfz,hl,h1=>by
  have hi:o + i < cur.size:=by simp at hl; omega
  have hadd:(⟨g,o,none⟩:Addr).add i = ⟨g,o + i,none⟩:=by unfold Addr.add; split <;> simp_all
  have hcell:w.cell? ⟨g,o + i,none⟩ = some cur[o + i]:=by simp [World.cell?,hg,hi]
  have hfro:w.frozen? ⟨g,o + i,none⟩ = false:=by
   obtain ⟨lo,hi'⟩:=fz
   simp only [World.frozen?,hg,Bool.and_eq_false_iff,decide_eq_false_iff_not]
   simp only at hfz
   omega
  have hst:(store ((⟨g,o,none⟩:Addr).add i) v).run Tryz.prog w = .ok () (w.setRow g (cur.setIfInBounds (o + i) v)):=by
   rw [hadd,run_store Tryz.prog w _ v _ (h1 v (by simp)),hcell]
   simp [hfro,setCell_eq_setRow w g (o + i) cur 5 fz v hg]
  have ih:=store_any g o fz rest (i + 1) (cur.setIfInBounds (o + i) v) (w.setRow g (cur.setIfInBounds (o + i) v)) (setRow_heap w g cur _ 5 _ hg) (by simpa using hfz) (by simp at hl ⊢; omega) (fun x hx=>h1 x (by simp [hx]))
  simp only [storeCells,Sem.run_bind,hst,Result.andThen_ok,ih,setRow_setRow]
  congr 3
  have e:=list_seg_step cur.toList (o + i) v rest (by simp at hl ⊢; omega)
  simpa [Array.toList_setIfInBounds,Nat.add_assoc] using e
/-- append,as a run: r: the bytes behind it. -/
theorem append_any (W:World) (tx ty:TypeId) (x:Value) (r:List UInt8) (g cap:Nat) (cur:Array Value) (fz:Nat × Nat) (l:List UInt8) (hg:W.heap[g]? = some (.cells cur 5 fz)) (hc:cur.size = cap) (hl:l.length ≤ cap) (ht:cur.toList.take l.length = bcells l) (hfz:fz.2 = 0 ∨ cur.size ≤ fz.1)
  (hroom:∀ i0:TypeInfo,Tryz.prog.info? 5 = some i0 → i0.size = 1 → i0.bytes = 1 → i0.zero = some (.int .u8 0) → l.length + r.length ≤ cap →
   (Builtin.append_ #[111,tx] ty #[.slice (some ⟨g,0,none⟩) l.length cap,x]).run Tryz.prog W = .ok (.slice (some ⟨g,0,none⟩) (l.length + r.length) cap) (W.setRow g (cur.toList.take l.length ++ bcells r ++ cur.toList.drop (l.length + r.length)).toArray))
  (hgrow:∀ i0:TypeInfo,Tryz.prog.info? 5 = some i0 → i0.size = 1 → i0.bytes = 1 → i0.zero = some (.int .u8 0) → cap < l.length + r.length →
   (Builtin.append_ #[111,tx] ty #[.slice (some ⟨g,0,none⟩) l.length cap,x]).run Tryz.prog W = .ok (.slice (some ⟨W.heap.size,0,none⟩) (l.length + r.length) (grownCap W (l.length + r.length) cap 5)) (W.drew.alloc (.cells ((bcells l).toArray ++ (bcells r).toArray ++ Builtin.zeroCells (Value.int .u8 0).cells (grownCap W (l.length + r.length) cap 5 - (l.length + r.length))) 5)))
  (B:Nat) (hB:B ≤ g) (w0:World) (hbel:Below B w0 W) :
  ∃ v' W',(Builtin.append_ #[111,tx] ty #[.slice (some ⟨g,0,none⟩) l.length cap,x]).run Tryz.prog W = .ok v' W' ∧ AnyB W' B v' (l ++ r) ∧ Below B w0 W':=by
 obtain ⟨i0,hi,hz0,hz1,hz2⟩:=info_parts Tryz.infoU8
 have hll:(l ++ r).length = l.length + r.length:=List.length_append
 by_cases h:l.length + r.length ≤ cap
 ·refine ⟨_,_,hroom i0 hi hz1 hz2 hz0 h,⟨g,cap,_,fz,by rw [hll],hB,setRow_heap W g cur _ 5 fz hg,?_,by rw [hll]; exact h,?_,?_⟩,?_⟩
  ·simp only [List.size_toArray,List.length_append,List.length_take,List.length_drop,Array.length_toList,bcells_length]
   omega
  ·rw [hll,ht,bcells_append]
   have e:(bcells l ++ bcells r).length = l.length + r.length:=by simp [bcells_length]
   rw [← e]
   exact List.take_left
  ·rcases hfz with hfz | hfz
   ·exact Or.inl hfz
   ·refine Or.inr ?_
    simp only [List.size_toArray,List.length_append,List.length_take,List.length_drop,Array.length_toList,bcells_length]
    omega
  ·exact ⟨hbel.os,hbel.tape,hbel.output,by simpa using hbel.size,fun k hk=>by rw [setRow_other W g k _ (by omega)]; exact hbel.block k hk⟩
 ·refine ⟨_,_,hgrow i0 hi hz1 hz2 hz0 (by omega),⟨W.heap.size,_,_,(0,0),by rw [hll],?_,heap_alloc_new W.drew _,?_,?_,?_,Or.inl rfl⟩,?_⟩
  ·exact Nat.le_trans hB (Nat.le_of_lt (lt_of_block hg))
  ·have hge:=grownCap_ge W (l.length + r.length) cap 5
   have hz1:(Value.int IntKind.u8 0).cells.size = 1:=rfl
   simp only [Array.size_append,List.size_toArray,size_zeroCells,hz1,bcells_length]
   omega
  ·rw [hll]; exact grownCap_ge W (l.length + r.length) cap 5
  ·simp only [Array.toList_append,List.append_assoc]
   rw [← List.append_assoc,← bcells_append,hll]
   have e:(bcells (l ++ r)).length = l.length + r.length:=by simp [bcells_length]
   rw [← e]
   exact List.take_left
  ·have hd:Below B w0 W.drew:=⟨hbel.os,hbel.tape,hbel.output,hbel.size,hbel.block⟩
   exact hd.alloc (Nat.le_trans hB (Nat.le_of_lt (lt_of_block hg))) _
theorem bcells_one (r:List UInt8):∀ u ∈ bcells r,u.oneCell' = true:=by
 intro u hu
 simp only [bcells,List.mem_map] at hu
 obtain ⟨b,_,rfl⟩:=hu
 rfl
section
variable {ops:Array Oper} {rest:List Oper} {o:Oper} {a:Act} {Q:Exit → Act → World → Prop}
/-- A string behind it. -/
theorem any_str (W:World) (hgd:o.guard = none) (sl x:Operand)
  (ho:o.op = .call { callee:=.builtin .append,args:=#[sl,x],argTypes:=#[111,9] })
  (B:Nat) (v:Value) (l:List UInt8) (s:ByteArray) (hs:a.eval sl = v) (hx:a.eval x = .string s) (hown:AnyB W B v l)
  (hlen:l.length + s.size ≤ 140737488355328) (w0:World) (hbel:Below B w0 W)
  (h:∀ v' W',AnyB W' B v' (l ++ s.data.toList) → Below B w0 W' → wpList Tryz.prog ops Q rest (a.put o.dst v') W') :
  wpList Tryz.prog ops Q (o::rest) a W:=by
 obtain ⟨g,cap,cur,fz,rfl,hB,hg,hc,hl,ht,hfz⟩:=hown
 have hsz:s.data.toList.length = s.size:=by simp
 refine wpList_plain hgd fun K hK=>?_
 have key:=append_any W 9 o.type (.string s) s.data.toList g cap cur fz l hg hc hl ht hfz ?_ ?_ B hB w0 hbel
 ·obtain ⟨v',W',hr,hown',hb⟩:=key
  unfold Oper.wp execOp
  simp only [ho,resolve,invoke,builtin,Sem.run_bind,Sem.run_pure,Result.andThen_ok,List.map_toArray,List.map_cons,List.map_nil,hs,hx,hr]
  exact hK _ _ (h v' W' hown' hb)
 ·intro i0 hi hz1 _ _ hroom
  rw [hsz] at hroom ⊢
  have hf:=Go.Lib.run_firstCells_string (P:=Tryz.prog) W 1 s
  have hst:=store_any g l.length fz (bcells s.data.toList) 0 cur W hg hfz (by rw [bcells_length]; omega) (bcells_one _)
  simp only [Nat.add_zero,bcells_length,hsz] at hst
  simp [Builtin.append_,run_underlying Tryz.underlying111,run_underlying Tryz.underlying9,sizeOf,typeInfo,hi,hz1,Builtin.lenOf,hroom,hf,Addr.add_lit,strCells_eq,hst]
 ·intro i0 hi hz1 hz2 hz0 hgr
  rw [hsz] at hgr ⊢
  have holds:∀ j u,(bcells l)[j]? = some u → W.cell? ((⟨g,0,none⟩:Addr).add j) = some u:=by
   intro j u hu
   have e:(⟨g,0,none⟩:Addr).add j = ⟨g,j,none⟩:=by simp [Addr.add_lit]
   rw [e,cell_of_row _ _ _ _ _ _ hg]
   rw [← ht,List.getElem?_take] at hu
   split at hu
   ·simpa using hu
   ·cases hu
  exact Go.Lib.run_append_grow_string (P:=Tryz.prog) W 111 9 o.type 5 i0 (.int .u8 0) Tryz.underlying111 Tryz.underlying9 hi hz0 ⟨g,0,none⟩ l.length cap (bcells l) (by rw [hz1,bcells_length]; omega) holds s hgr (by omega) (by rw [hz2]; exact growslice_fits (by omega) (by omega))
/-- One byte behind it. -/
theorem any_one (W:World) (c:UInt8) (n:Int) (hn:n = (c.toNat:Int)) (hgd:o.guard = none) (sl x:Operand)
  (ho:o.op = .call { callee:=.builtin .append,args:=#[sl,x],argTypes:=#[111,111] })
  (B:Nat) (v:Value) (l:List UInt8) (g1 cp:Nat) (hs:a.eval sl = v) (hx:a.eval x = .slice (some ⟨g1,0,none⟩) 1 cp) (hg0:g1 = W.heap.size) (hown:AnyB W B v l)
  (hlen:l.length + 1 ≤ 140737488355328) (w0:World) (hbel:Below B w0 W) (hB:B ≤ W.heap.size)
  (h:∀ v' W',AnyB W' B v' (l ++ [c]) → Below B w0 W' → wpList Tryz.prog ops Q rest (a.put o.dst v') W') :
  wpList Tryz.prog ops Q (o::rest) a (W.alloc (.cells #[.int .u8 n] 5)):=by
 subst hn hg0
 obtain ⟨g,cap,cur,fz,rfl,hBg,hg,hc,hl,ht,hfz⟩:=hown
 have hglt:=lt_of_block hg
 have hg1:(W.alloc (.cells #[.int .u8 (c.toNat:Int)] 5)).heap[g]? = some (.cells cur 5 fz):=(Below.heap_alloc _ _ _ hglt).trans hg
 have hnew:∀ j u,([Value.int .u8 (c.toNat:Int)])[j]? = some u → (W.alloc (.cells #[.int .u8 (c.toNat:Int)] 5)).cell? ((⟨W.heap.size,0,none⟩:Addr).add j) = some u:=cell_one_new _ _ _
 have hbel1:Below B w0 (W.alloc (.cells #[.int .u8 (c.toNat:Int)] 5)):=hbel.alloc hB _
 generalize hW1:W.alloc (.cells #[.int .u8 (c.toNat:Int)] 5) = W1 at *
 refine wpList_plain hgd fun K hK=>?_
 have key:=append_any W1 111 o.type (.slice (some ⟨W.heap.size,0,none⟩) 1 cp) [c] g cap cur fz l hg1 hc hl ht hfz ?_ ?_ B hBg w0 hbel1
 ·obtain ⟨v',W',hr,hown',hb⟩:=key
  unfold Oper.wp execOp
  simp only [ho,resolve,invoke,builtin,Sem.run_bind,Sem.run_pure,Result.andThen_ok,List.map_toArray,List.map_cons,List.map_nil,hs,hx,hr]
  exact hK _ _ (h v' W' hown' hb)
 ·intro i0 hi hz1 _ _ hroom
  have hroom:l.length + 1 ≤ cap:=hroom
  have hf:=run_firstCells_some (P:=Tryz.prog) W1 i0.size 1 ⟨W.heap.size,0,none⟩ 1 cp [.int .u8 (c.toNat:Int)] (by rw [hz1]; rfl) hnew
  rw [hz1] at hf
  have hst:=store_any g l.length fz (bcells [c]) 0 cur W1 hg1 hfz (by rw [bcells_length]; show l.length + 0 + 1 ≤ cur.size; omega) (bcells_one _)
  simp only [Nat.add_zero,bcells_length,List.length_cons,List.length_nil,Nat.zero_add] at hst ⊢
  have e:bcells [c] = [.int .u8 (c.toNat:Int)]:=rfl
  rw [e] at hst ⊢
  simp [Builtin.append_,run_underlying Tryz.underlying111,sizeOf,typeInfo,hi,hz1,Builtin.lenOf,hroom,hf,Addr.add_lit,hst]
 ·intro i0 hi hz1 hz2 hz0 hgr
  have hgr:cap < l.length + 1:=hgr
  have holds:∀ j u,(bcells l)[j]? = some u → W1.cell? ((⟨g,0,none⟩:Addr).add j) = some u:=by
   intro j u hu
   have e:(⟨g,0,none⟩:Addr).add j = ⟨g,j,none⟩:=by simp [Addr.add_lit]
   rw [e,cell_of_row _ _ _ _ _ _ hg1]
   rw [← ht,List.getElem?_take] at hu
   split at hu
   ·simpa using hu
   ·cases hu
  exact run_append_grow (P:=Tryz.prog) W1 111 o.type 5 i0 (.int .u8 0) Tryz.underlying111 hi hz0 ⟨g,0,none⟩ l.length cap (bcells l) (by rw [hz1,bcells_length]; omega) holds ⟨W.heap.size,0,none⟩ 1 cp [.int .u8 (c.toNat:Int)] (by rw [hz1]; rfl) hnew hgr (by omega) (by rw [hz2]; exact growslice_fits (by omega) (by omega))
end
end Go.Proofs.YtlbpjcphhocdkaaGreat
namespace Go.Proofs.YtlbpjcphhocdkaaGreat
open Go.RowKit Go.Proofs.YtlbpjcphhocdkaaGreat.Mod Go.Proofs.YtlbpjcphhocdkaaGreat.Pst
/-- One station changed,the other is as it was. -/
theorem LnAt.turn0 {w w':World} {F:Nat → Prop} {b:Nat} {c:Cfg} {p0 p1 p0':PS} (h:LnAt w F b c p0 p1) (k:∀ G,StAt w G b 10 p0 → StAt w' G b 10 p0') (hb:Bes b 10 w w'):LnAt w' F b c p0' p1:=by
 obtain ⟨F0,F1,h0,h1,a,d,e⟩:=h.sts
 exact ⟨⟨F0,F1,k F0 h0,h1.beside hb (Or.inr (by omega)),fun g hg=>⟨(a g hg).1,Nat.lt_of_lt_of_le (a g hg).2 hb.size⟩,fun g hg=>⟨(d g hg).1,Nat.lt_of_lt_of_le (d g hg).2 hb.size⟩,e⟩,h.cfg.bes hb (by omega),h.own⟩
theorem LnAt.turn1 {w w':World} {F:Nat → Prop} {b:Nat} {c:Cfg} {p0 p1 p1':PS} (h:LnAt w F b c p0 p1) (k:∀ G,StAt w G b 25 p1 → StAt w' G b 25 p1') (hb:Bes b 25 w w'):LnAt w' F b c p0 p1':=by
 obtain ⟨F0,F1,h0,h1,a,d,e⟩:=h.sts
 exact ⟨⟨F0,F1,h0.beside hb (Or.inl (by omega)),k F1 h1,fun g hg=>⟨(a g hg).1,Nat.lt_of_lt_of_le (a g hg).2 hb.size⟩,fun g hg=>⟨(d g hg).1,Nat.lt_of_lt_of_le (d g hg).2 hb.size⟩,e⟩,h.cfg.bes hb (by omega),h.own⟩
theorem rel_busy {now i:Nat} {s:Stn} {l:List UInt8} {p:PS} (on:Bool) (h:Rel now i s l p):Rel now i { s with busy:=on } l { p with busy:=on } :=
 ⟨h.side,h.q,h.joined,rfl,h.put,h.mode,h.rest,h.wait,h.own,h.block,h.got⟩
theorem rel_put {now i:Nat} {s:Stn} {l:List UInt8} {p:PS} (l':List UInt8) (h:Rel now i s l p):Rel now i s l' { p with put:=l' } :=
 ⟨h.side,h.q,h.joined,h.busy,rfl,h.mode,h.rest,h.wait,h.own,h.block,h.got⟩
theorem busy_line (F:Nat → Prop) (b:Nat) (x:Ln) (st:Int) (on:Bool) (w:World) (h:LineAt w F b x) :
  Calls Tryz.prog 35 #[.pointer (some ⟨b,0,none⟩),.int .i64 st,.bool on] w fun e w'=>e = .returned (.int .i64 (busyE st)) ∧ LineAt w' F b (busyL x st on) ∧ Fr (fun g=>g = b) w w':=by
 obtain ⟨p0,p1,hl,hr,w0,w1⟩:=h
 obtain ⟨F0,F1,s0,s1,_⟩:=hl.sts
 have hlt:=hl.lt
 have c13:w.cell? ⟨b,13,none⟩ = some (.bool p0.busy):=s0.busy
 have c28:w.cell? ⟨b,28,none⟩ = some (.bool p1.busy):=s1.busy
 have f13:=s0.fz 13
 have f28:=s0.fz 28
 have HL:=hide hl
 have HR:=hide hr
 clear s0 s1 hl hr
 by_cases h0:st = 0
 ·subst h0
  go_enter Tryz.func35,Tryz.ntmps35
  go_wp2_with fail
  refine (isStation_any 0 _).mono ?_
  rintro e wx ⟨rfl,hw1⟩
  obtain rfl:=hw1.symm
  go_wp2
  go_ret
  exact ⟨rfl,⟨_,p1,HL.out.turn0 (fun G k=>k.busy' on) ((Bes.refl b 10 _).set 3 (by omega) _),⟨rel_busy on HR.out.r0,HR.out.r1⟩,w0,w1⟩,((Bes.refl b 10 _).set 3 (by omega) _).fr⟩
 ·by_cases h1:st = 1
  ·subst h1
   go_enter Tryz.func35,Tryz.ntmps35
   go_wp2_with fail
   refine (isStation_any 1 _).mono ?_
   rintro e wx ⟨rfl,hw1⟩
   obtain rfl:=hw1.symm
   go_wp2
   go_ret
   exact ⟨rfl,⟨p0,_,HL.out.turn1 (fun G k=>k.busy' on) ((Bes.refl b 25 _).set 3 (by omega) _),⟨HR.out.r0,rel_busy on HR.out.r1⟩,w0,w1⟩,((Bes.refl b 25 _).set 3 (by omega) _).fr⟩
  ·have HD:Hid (decide (st = 0 ∨ st = 1) = false):=by simp [Hid,h0,h1]
   have HE:Hid (busyE st = 7 ∧ busyL x st on = x):=by unfold Hid busyE busyL; rw [if_neg (by omega),if_neg h0,if_neg h1]; exact ⟨rfl,rfl⟩
   rw [HE.out.1,HE.out.2]
   clear h0 h1
   go_enter Tryz.func35,Tryz.ntmps35
   go_wp2_with fail
   refine (isStation_any st _).mono ?_
   rintro e wx ⟨rfl,hw1⟩
   obtain rfl:=hw1.symm
   rw [HD.out]
   go_wp2
   go_ret
   exact ⟨rfl,⟨p0,p1,HL.out,HR.out,w0,w1⟩,Fr.refl _ _⟩
/-- The answer of a fault. -/
def fV (o:Option (List UInt8)):Value:=.tuple #[.string ⟨(o.getD []).toArray⟩,.int .i64 (if o.isSome then 0 else 10)]
theorem fV_some {o:Option (List UInt8)} {l:List UInt8} {r:ByteArray} (h:o = some l) (hr:Is r l):(.tuple #[.string r,.int .i64 0]:Value) = fV o:=by
 subst h
 rw [hr]
 rfl
theorem fV_none {o:Option (List UInt8)} (h:o = none):(.tuple #[.string ⟨#[]⟩,.int .i64 10]:Value) = fV o:=by
 subst h
 rfl
theorem afterCut_any (s:ByteArray) (p v:Int) (w:World) (_hs:s.size ≤ 1000) :
  Calls Tryz.prog 89 #[.string s,.int .i64 p] w fun e w'=>e = .returned (fV (faultOf s.data.toList 1 p v)) ∧ w' = w:=by
 have hsz:s.data.toList.length = s.size:=by simp
 by_cases h0:p < 0
 ·have HF:Hid (faultOf s.data.toList 1 p v = none):=by unfold Hid faultOf; rw [if_neg (by decide),if_pos rfl,if_neg (by omega)]
  go_enter Tryz.func89,Tryz.ntmps89
  go_wp2
  go_ret2
  exact ⟨congrArg _ (fV_none HF.out),rfl⟩
 ·by_cases h1:(s.size:Int) < p
  ·have HF:Hid (faultOf s.data.toList 1 p v = none):=by unfold Hid faultOf; rw [if_neg (by decide),if_pos rfl,if_neg (by omega)]
   go_enter Tryz.func89,Tryz.ntmps89
   go_wp2
   go_ret2
   exact ⟨congrArg _ (fV_none HF.out),rfl⟩
  ·obtain ⟨n,rfl⟩:∃ n:Nat,p = (n:Int):=⟨p.toNat,by omega⟩
   have hn:n ≤ s.size:=by omega
   have HF:Hid (faultOf s.data.toList 1 (n:Int) v = some (s.data.toList.take n)):=by unfold Hid faultOf; rw [if_neg (by decide),if_pos rfl,if_pos (by omega)]; simp
   have HI:=hide (is_cut s 0 n)
   go_enter Tryz.func89,Tryz.ntmps89
   go_wp2
   go_ret2
   exact ⟨congrArg _ (fV_some HF.out (by simpa using HI.out)),rfl⟩
theorem xor_byte (x:UInt8) (v:Int) (h0:0 ≤ v) (h1:v ≤ 255):bits BinOp.xor IntKind.u8 (x.toNat:Int) (v % 256) = ((x ^^^ UInt8.ofNat v.toNat).toNat:Int):=by
 obtain ⟨n,rfl⟩:∃ n:Nat,v = (n:Int):=⟨v.toNat,by omega⟩
 have e:((n:Int) % 256) = (n:Int):=by omega
 rw [e,xor_u8 _ _ (Crc.byte_lt x) (by omega),UInt8.toNat_xor,UInt8.toNat_ofNat',Int.toNat_natCast,Nat.mod_eq_of_lt (by omega:n < 2 ^ 8)]
theorem afterTurn_any (s:ByteArray) (p v:Int) (w:World) (_hs:s.size ≤ 1000) :
  Calls Tryz.prog 90 #[.string s,.int .i64 p,.int .i64 v] w fun e w'=>e = .returned (fV (faultOf s.data.toList 2 p v)) ∧ Below w.heap.size w w':=by
 have hsz:s.data.toList.length = s.size:=by simp
 by_cases h0:p < 0
 ·have HF:Hid (faultOf s.data.toList 2 p v = none):=by unfold Hid faultOf; rw [if_neg (by decide),if_neg (by decide),if_pos rfl,if_neg (by omega)]
  go_enter Tryz.func90,Tryz.ntmps90
  go_wp2
  go_ret2
  exact ⟨congrArg _ (fV_none HF.out),Below.refl _ _⟩
 ·by_cases h1:(s.size:Int) ≤ p
  ·have HF:Hid (faultOf s.data.toList 2 p v = none):=by unfold Hid faultOf; rw [if_neg (by decide),if_neg (by decide),if_pos rfl,if_neg (by omega)]
   go_enter Tryz.func90,Tryz.ntmps90
   go_wp2
   go_ret2
   exact ⟨congrArg _ (fV_none HF.out),Below.refl _ _⟩
  ·obtain ⟨n,rfl⟩:∃ n:Nat,p = (n:Int):=⟨p.toNat,by omega⟩
   by_cases hv:1 ≤ v ∧ v ≤ 255
   ·have hn:n < s.size:=by omega
    have hn':n < s.data.toList.length:=by omega
    have HD:Hid (decide (1 ≤ v ∧ v ≤ 255) = true):=by simp [Hid,hv]
    have HF:Hid (faultOf s.data.toList 2 (n:Int) v = some (s.data.toList.set n (s.data.toList[n] ^^^ UInt8.ofNat v.toNat))):=by
     unfold Hid faultOf
     rw [if_neg (by decide),if_neg (by decide),if_pos rfl,if_pos (by omega)]
     simp [List.getD,List.getElem?_eq_getElem hn']
    have HX:=hide (xor_byte s.data.toList[n] v (by omega) (by omega))
    have hc:=cnv_new w w.heap.size s (Nat.le_refl _)
    have kc:=cnv_run w s
    have hb0:=hide (cnv_below w s)
    have hz:=Go.Lib.bytesWorld_size w 5 s
    generalize Go.Lib.bytesWorld w 5 s = W0 at *
    obtain ⟨g,cap,cur,e1,_,hg,hcs,hl,ht⟩:=hc
    simp only [Value.slice.injEq,Option.some.injEq,Addr.mk.injEq,and_true] at e1
    obtain ⟨e2,e4,e3⟩:=e1
    clear e4
    subst e2
    rw [e3] at kc
    have c1:=any_cell hg ht n hn'
    have c2:W0.frozen? ⟨w.heap.size,n,none⟩ = false:=by
     simp only [World.frozen?,hg,Bool.and_eq_false_iff,decide_eq_false_iff_not]
     left; omega
    have HC:Hid ((convert 111 9 (.slice (some ⟨w.heap.size,0,none⟩) s.size cap)).run Tryz.prog (W0.setCell ⟨w.heap.size,n,none⟩ (.int .u8 ((s.data.toList[n] ^^^ UInt8.ofNat v.toNat).toNat:Int))) = .ok (.string ⟨(s.data.toList.set n (s.data.toList[n] ^^^ UInt8.ofNat v.toNat)).toArray⟩) (W0.setCell ⟨w.heap.size,n,none⟩ (.int .u8 ((s.data.toList[n] ^^^ UInt8.ofNat v.toNat).toNat:Int)))):=by
     have:=conv_cells (W0.setCell ⟨w.heap.size,n,none⟩ (.int .u8 ((s.data.toList[n] ^^^ UInt8.ofNat v.toNat).toNat:Int))) w.heap.size cap (s.data.toList.set n (s.data.toList[n] ^^^ UInt8.ofNat v.toNat)) (fun j hj=>by
      rw [List.length_set] at hj
      by_cases hjn:n = j
      ·subst hjn
       rw [World.cell?_setCell_same _ _ _ c1]
       simp
      ·rw [World.cell?_setCell_other _ _ _ _ (by simp only [ne_eq,Addr.mk.injEq,not_and]; omega),any_cell hg ht j hj]
       simp [hjn])
     rw [List.length_set,hsz] at this
     exact this
    rw [← HX.out] at HC
    have cv:=HC.out
    generalize s.data.toList[n] = y at *
    clear HC hg ht hl hsz hz hcs e3 hv hn'
    go_enter Tryz.func90,Tryz.ntmps90
    go_wp2_with (first | (go_at_call 83; refine (isWithin_any v 1 255 _).mono ?_; rintro e w1 ⟨rfl,hw1⟩; obtain rfl:=hw1.symm; rw [HD.out]))
    go_wp2
    go_ret2
    exact ⟨congrArg _ (fV_some HF.out rfl),hb0.out.setCell (Nat.le_refl _) _⟩
   ·have HF:Hid (faultOf s.data.toList 2 (n:Int) v = none):=by unfold Hid faultOf; rw [if_neg (by decide),if_neg (by decide),if_pos rfl,if_neg (fun k=>hv k.2)]
    have HD:Hid (decide (1 ≤ v ∧ v ≤ 255) = false):=by simp only [Hid,decide_eq_false_iff_not]; exact hv
    clear hv
    go_enter Tryz.func90,Tryz.ntmps90
    go_wp2_with (first | (go_at_call 83; refine (isWithin_any v 1 255 _).mono ?_; rintro e w1 ⟨rfl,hw1⟩; obtain rfl:=hw1.symm; rw [HD.out]))
    go_wp2
    go_ret2
    exact ⟨congrArg _ (fV_none HF.out),Below.refl _ _⟩
theorem afterNoise_any (s:ByteArray) (p v:Int) (w:World) (hs:s.size ≤ 1000) :
  Calls Tryz.prog 91 #[.string s,.int .i64 p,.int .i64 v] w fun e w'=>e = .returned (fV (faultOf s.data.toList 3 p v)) ∧ Below w.heap.size w w':=by
 have hsz:s.data.toList.length = s.size:=by simp
 by_cases h0:p < 0
 ·have HF:Hid (faultOf s.data.toList 3 p v = none):=by unfold Hid faultOf; rw [if_neg (by decide),if_neg (by decide),if_neg (by decide),if_pos rfl,if_neg (by omega)]
  go_enter Tryz.func91,Tryz.ntmps91
  go_wp2
  go_ret2
  exact ⟨congrArg _ (fV_none HF.out),Below.refl _ _⟩
 ·by_cases h1:(s.size:Int) < p
  ·have HF:Hid (faultOf s.data.toList 3 p v = none):=by unfold Hid faultOf; rw [if_neg (by decide),if_neg (by decide),if_neg (by decide),if_pos rfl,if_neg (by omega)]
   go_enter Tryz.func91,Tryz.ntmps91
   go_wp2
   go_ret2
   exact ⟨congrArg _ (fV_none HF.out),Below.refl _ _⟩
  ·obtain ⟨n,rfl⟩:∃ n:Nat,p = (n:Int):=⟨p.toNat,by omega⟩
   by_cases hv:0 ≤ v ∧ v ≤ 255
   ·have HD:Hid (decide (0 ≤ v ∧ v ≤ 255) = true):=by simp [Hid,hv]
    by_cases hl:s.size < 320
    ·have hl':¬ (320:Int) ≤ (s.size:Int):=by omega
     have hn:n ≤ s.size:=by omega
     have HF:Hid (faultOf s.data.toList 3 (n:Int) v = some (s.data.toList.take n ++ [UInt8.ofNat v.toNat] ++ s.data.toList.drop n)):=by
      unfold Hid faultOf
      rw [if_neg (by decide),if_neg (by decide),if_neg (by decide),if_pos rfl,if_pos (by omega)]
      simp
     have HB:Hid (v % 256 = ((UInt8.ofNat v.toNat).toNat:Int)):=by
      unfold Hid
      rw [UInt8.toNat_ofNat',Nat.mod_eq_of_lt (by omega:v.toNat < 2 ^ 8)]
      omega
     have HI1:=hide (is_cut s 0 n)
     have HI2:=hide (is_tail' s n)
     have hx1:(s.extract 0 n).size ≤ 1000:=by rw [HI1.out.size]; simp; omega
     have hx2:(s.extract n s.size).size ≤ 1000:=by rw [HI2.out.size]; simp; omega
     have hc:=AnyB.of_cnv (cnv_new w w.heap.size (s.extract 0 n) (Nat.le_refl _))
     have kc:=cnv_run w (s.extract 0 n)
     have hb0:=cnv_below w (s.extract 0 n)
     have e1:(s.extract 0 n).data.toList = s.data.toList.take n:=by have:=HI1.out.data; simpa only [List.drop_zero,Nat.sub_zero] using this
     have E2:Hid ((s.extract n s.size).data.toList = s.data.toList.drop n):=HI2.out.data
     have en:(s.extract 0 n).size = n:=by rw [HI1.out.size]; simp; omega
     rw [e1,en] at hc
     rw [en] at kc
     generalize Go.Lib.bytesWorld w 5 (s.extract 0 n) = W0 at *
     generalize grownCap w n 0 5 = cp at *
     have HC:=hide hc
     have HW:=hide hb0
     have HL1:Hid ((s.data.toList.take n).length ≤ 1000):=by rw [Hid,List.length_take]; omega
     clear hc hb0 hv e1 hsz en
     go_enter Tryz.func91,Tryz.ntmps91
     go_wp2_with (first | (go_at_call 83; refine (isWithin_any v 0 255 _).mono ?_; rintro e w1 ⟨rfl,hw1⟩; obtain rfl:=hw1.symm; rw [HD.out]) | (at_builtin; refine any_one W0 (UInt8.ofNat v.toNat) _ HB.out rfl (.tmp 29) (.tmp 32) rfl w.heap.size _ _ _ 1 rfl rfl rfl HC.out (by have:=HL1.out; omega) w HW.out HW.out.size ?_; intro v1 W1 hv1 hb1) | (at_builtin; refine any_str _ rfl (.tmp 34) (.tmp 37) rfl w.heap.size _ _ _ rfl rfl hv1 (by rw [List.length_append]; have:=HL1.out; simp only [List.length_cons,List.length_nil]; omega) w hb1 ?_; intro v2 W2 hv2 hb2; rw [E2.out] at hv2; have cv:=hv2.conv))
     go_ret2
     exact ⟨congrArg _ (fV_some HF.out (by rw [List.append_assoc]; rfl)),hb2⟩
    ·have hl':(320:Int) ≤ (s.size:Int):=by omega
     have HF:Hid (faultOf s.data.toList 3 (n:Int) v = none):=by unfold Hid faultOf; rw [if_neg (by decide),if_neg (by decide),if_neg (by decide),if_pos rfl,if_neg (by omega)]
     clear hv
     go_enter Tryz.func91,Tryz.ntmps91
     go_wp2_with (first | (go_at_call 83; refine (isWithin_any v 0 255 _).mono ?_; rintro e w1 ⟨rfl,hw1⟩; obtain rfl:=hw1.symm; rw [HD.out]))
     go_wp2
     go_ret2
     exact ⟨congrArg _ (fV_none HF.out),Below.refl _ _⟩
   ·have HF:Hid (faultOf s.data.toList 3 (n:Int) v = none):=by unfold Hid faultOf; rw [if_neg (by decide),if_neg (by decide),if_neg (by decide),if_pos rfl,if_neg (fun k=>hv k.2.1)]
    have HD:Hid (decide (0 ≤ v ∧ v ≤ 255) = false):=by simp only [Hid,decide_eq_false_iff_not]; exact hv
    clear hv
    go_enter Tryz.func91,Tryz.ntmps91
    go_wp2_with (first | (go_at_call 83; refine (isWithin_any v 0 255 _).mono ?_; rintro e w1 ⟨rfl,hw1⟩; obtain rfl:=hw1.symm; rw [HD.out]))
    go_wp2
    go_ret2
    exact ⟨congrArg _ (fV_none HF.out),Below.refl _ _⟩
theorem fV_form (o:Option (List UInt8)):∃ (r:ByteArray) (n:Int),fV o = .tuple #[.string r,.int .i64 n]:=⟨_,_,rfl⟩
theorem faulted_any (s:ByteArray) (k p v:Int) (w:World) (hs:s.size ≤ 1000) :
  Calls Tryz.prog 66 #[.string s,.int .i64 k,.int .i64 p,.int .i64 v] w fun e w'=>e = .returned (fV (faultOf s.data.toList k p v)) ∧ Below w.heap.size w w':=by
 by_cases k0:k = 0
 ·subst k0
  have HF:Hid (faultOf s.data.toList 0 p v = some []):=rfl
  go_enter Tryz.func66,Tryz.ntmps66
  go_wp2
  go_ret2
  exact ⟨congrArg _ (fV_some HF.out rfl),Below.refl _ _⟩
 ·by_cases k1:k = 1
  ·subst k1
   go_enter Tryz.func66,Tryz.ntmps66
   go_wp2_with fail
   refine (afterCut_any s p v _ hs).mono ?_
   rintro e w1 ⟨rfl,hw1⟩
   obtain rfl:=hw1.symm
   obtain ⟨r,n,e⟩:=fV_form (faultOf s.data.toList 1 p v)
   rw [e]
   have HE:=hide e
   clear e
   go_wp2
   go_ret2
   exact ⟨congrArg _ HE.out.symm,Below.refl _ _⟩
  ·by_cases k2:k = 2
   ·subst k2
    go_enter Tryz.func66,Tryz.ntmps66
    go_wp2_with fail
    refine (afterTurn_any s p v _ hs).mono ?_
    rintro e w1 ⟨rfl,hb1⟩
    obtain ⟨r,n,e⟩:=fV_form (faultOf s.data.toList 2 p v)
    rw [e]
    have HE:=hide e
    have HB:=hide hb1
    clear e hb1
    go_wp2
    go_ret2
    exact ⟨congrArg _ HE.out.symm,HB.out⟩
   ·by_cases k3:k = 3
    ·subst k3
     go_enter Tryz.func66,Tryz.ntmps66
     go_wp2_with fail
     refine (afterNoise_any s p v _ hs).mono ?_
     rintro e w1 ⟨rfl,hb1⟩
     obtain ⟨r,n,e⟩:=fV_form (faultOf s.data.toList 3 p v)
     rw [e]
     have HE:=hide e
     have HB:=hide hb1
     clear e hb1
     go_wp2
     go_ret2
     exact ⟨congrArg _ HE.out.symm,HB.out⟩
    ·have HF:Hid (faultOf s.data.toList k p v = none):=by unfold Hid faultOf; rw [if_neg k0,if_neg k1,if_neg k2,if_neg k3]
     go_enter Tryz.func66,Tryz.ntmps66
     go_wp2
     go_ret2
     exact ⟨congrArg _ (fV_none HF.out),Below.refl _ _⟩
/-- Which station speaks alone. -/
def spk (a b:List UInt8) (g:Nat):Option Addr:=if a ≠ [] ∧ b = [] then some ⟨g,10,none⟩ else if a = [] ∧ b ≠ [] then some ⟨g,25,none⟩ else none
theorem speaker_any (b:Nat) (s t:ByteArray) (w:World) (c14:w.cell? ⟨b,14,none⟩ = some (.string s)) (c29:w.cell? ⟨b,29,none⟩ = some (.string t)) :
  Calls Tryz.prog 65 #[.pointer (some ⟨b,0,none⟩)] w fun e w'=>e = .returned (.pointer (spk s.data.toList t.data.toList b)) ∧ ∃ n,w' = w.drewN n:=by
 have hlt:=World.block_lt_of_cell? w _ c14
 by_cases hs:s.data.toList = []
 ·have e1:s.toList = []:=by rw [ByteArray.toList_eq]; exact hs
  by_cases ht:t.data.toList = []
  ·have e2:t.toList = []:=by rw [ByteArray.toList_eq]; exact ht
   have HS:Hid (spk s.data.toList t.data.toList b = none):=by unfold Hid spk; rw [if_neg (fun k=>k.1 hs),if_neg (fun k=>k.2 ht)]
   rw [HS.out]
   clear hs ht
   go_enter Tryz.func65,Tryz.ntmps65
   go_wp2
   go_ret
   exact ⟨rfl,0,rfl⟩
  ·have e2:t.toList.isEmpty = false:=by rw [ByteArray.toList_eq]; cases hl:t.data.toList with | nil=>exact absurd hl ht | cons _ _=>rfl
   have e2':¬ t.toList = []:=by rw [ByteArray.toList_eq]; exact ht
   have HS:Hid (spk s.data.toList t.data.toList b = some ⟨b,25,none⟩):=by unfold Hid spk; rw [if_neg (fun k=>k.1 hs),if_pos ⟨hs,ht⟩]
   rw [HS.out]
   clear hs ht
   go_enter Tryz.func65,Tryz.ntmps65
   go_wp2
   go_ret
   exact ⟨rfl,0,rfl⟩
 ·have e1:s.toList.isEmpty = false:=by rw [ByteArray.toList_eq]; cases hl:s.data.toList with | nil=>exact absurd hl hs | cons _ _=>rfl
  have e1':¬ s.toList = []:=by rw [ByteArray.toList_eq]; exact hs
  by_cases ht:t.data.toList = []
  ·have e2:t.toList = []:=by rw [ByteArray.toList_eq]; exact ht
   have HS:Hid (spk s.data.toList t.data.toList b = some ⟨b,10,none⟩):=by unfold Hid spk; rw [if_pos ⟨hs,ht⟩]
   rw [HS.out]
   clear hs ht
   go_enter Tryz.func65,Tryz.ntmps65
   go_wp2
   go_ret
   exact ⟨rfl,0,rfl⟩
  ·have e2:t.toList.isEmpty = false:=by rw [ByteArray.toList_eq]; cases hl:t.data.toList with | nil=>exact absurd hl ht | cons _ _=>rfl
   have e2':¬ t.toList = []:=by rw [ByteArray.toList_eq]; exact ht
   have HS:Hid (spk s.data.toList t.data.toList b = none):=by unfold Hid spk; rw [if_neg (fun k=>ht k.2),if_neg (fun k=>hs k.1)]
   rw [HS.out]
   clear hs ht
   go_enter Tryz.func65,Tryz.ntmps65
   go_wp2
   go_ret
   exact ⟨rfl,0,rfl⟩
theorem fault_line (F:Nat → Prop) (b:Nat) (x:Ln) (k p v:Int) (w:World) (h:LineAt w F b x) (hg:LGood x) :
  Calls Tryz.prog 37 #[.pointer (some ⟨b,0,none⟩),.int .i64 k,.int .i64 p,.int .i64 v] w fun e w'=>e = .returned (.int .i64 (faultE x k p v)) ∧ LineAt w' F b (faultL x k p v) ∧ Fr (fun g=>g = b) w w':=by
 have HK:=hide h
 obtain ⟨p0,p1,hl,hr,w0,w1⟩:=h
 obtain ⟨F0,F1,s0,s1,_⟩:=hl.sts
 have hlt:=hl.lt
 have c14:w.cell? ⟨b,14,none⟩ = some (.string ⟨x.on0.toArray⟩):=by rw [← hr.r0.put]; exact s0.put
 have c29:w.cell? ⟨b,29,none⟩ = some (.string ⟨x.on1.toArray⟩):=by rw [← hr.r1.put]; exact s1.put
 have f14:=s0.fz 14
 have f29:=s0.fz 29
 have o0:=hg.o0
 have o1:=hg.o1
 have HL:=hide hl
 have HR:=hide hr
 clear s0 s1 hl hr hg
 by_cases ha:x.on0 ≠ [] ∧ x.on1 = []
 ·have hlen:(ByteArray.mk x.on0.toArray).size ≤ 1000:=by show x.on0.toArray.size ≤ 1000; simp; omega
  have HS:Hid (spk x.on0 x.on1 b = some ⟨b,10,none⟩):=by unfold Hid spk; rw [if_pos ha]
  go_enter Tryz.func37,Tryz.ntmps37
  go_wp2_with fail
  refine (speaker_any b _ _ _ c14 c29).mono ?_
  rintro e wx ⟨rfl,n,rfl⟩
  rw [HS.out]
  have c14':(w.drewN n).cell? ⟨b,14,none⟩ = some (.string ⟨x.on0.toArray⟩):=c14
  have c29':(w.drewN n).cell? ⟨b,29,none⟩ = some (.string ⟨x.on1.toArray⟩):=c29
  have b0:Below w.heap.size w (w.drewN n):=⟨rfl,rfl,rfl,Nat.le_refl _,fun _ _=>rfl⟩
  have HB0:=hide b0
  clear b0 c14 c29
  generalize w.drewN n = wd at *
  go_wp2_with fail
  refine (faulted_any _ k p v _ hlen).mono ?_
  rintro e w2 ⟨rfl,hb2⟩
  have HB:=hide (below_step HB0.out hb2)
  clear hb2
  cases hf:faultOf x.on0 k p v with
  | none =>
   have HE:Hid (faultE x k p v = 10 ∧ faultL x k p v = x):=by unfold Hid faultE faultL; rw [if_pos ha,if_pos ha,hf]; exact ⟨rfl,rfl⟩
   rw [show fV (none:Option (List UInt8)) = .tuple #[.string ⟨#[]⟩,.int .i64 10] from rfl]
   clear ha hf
   go_wp2
   go_ret
   rw [HE.out.1,HE.out.2]
   exact ⟨rfl,HK.out.below HB.out,Fr.of_below HB.out⟩
  | some l =>
   have HE:Hid (faultE x k p v = 0 ∧ faultL x k p v = { x with on0:=l }):=by unfold Hid faultE faultL; rw [if_pos ha,if_pos ha,hf]; exact ⟨rfl,rfl⟩
   rw [show fV (some l) = .tuple #[.string ⟨l.toArray⟩,.int .i64 0] from rfl]
   have d14:w2.cell? ⟨b,14,none⟩ = some (.string ⟨x.on0.toArray⟩):=(HB.out.cell hlt).trans (HL.out.sts.elim fun _ h=>h.elim fun _ h=>by have:=h.1.put; rw [HR.out.r0.put] at this; exact this)
   have g14:w2.frozen? ⟨b,14,none⟩ = false:=(HB.out.frozen hlt).trans f14
   clear ha hf c14' c29'
   have HLB:Hid (LnAt w2 F b x.c p0 p1):=HL.out.keep HB.out.size fun g _ hgl=>HB.out.block g hgl
   go_wp2
   go_ret
   rw [HE.out.1,HE.out.2]
   exact ⟨rfl,⟨_,p1,HLB.out.turn0 (fun G k=>k.put' l) ((Bes.refl b 10 _).set 4 (by omega) _),⟨rel_put l HR.out.r0,HR.out.r1⟩,w0,w1⟩,(Fr.of_below HB.out).trans ((Bes.refl b 10 _).set 4 (by omega) _).fr (fun _ _ h=>h)⟩
 ·by_cases hc:x.on0 = [] ∧ x.on1 ≠ []
  ·have hlen:(ByteArray.mk x.on1.toArray).size ≤ 1000:=by show x.on1.toArray.size ≤ 1000; simp; omega
   have HS:Hid (spk x.on0 x.on1 b = some ⟨b,25,none⟩):=by unfold Hid spk; rw [if_neg ha,if_pos hc]
   go_enter Tryz.func37,Tryz.ntmps37
   go_wp2_with fail
   refine (speaker_any b _ _ _ c14 c29).mono ?_
   rintro e wx ⟨rfl,n,rfl⟩
   rw [HS.out]
   have c14':(w.drewN n).cell? ⟨b,14,none⟩ = some (.string ⟨x.on0.toArray⟩):=c14
   have c29':(w.drewN n).cell? ⟨b,29,none⟩ = some (.string ⟨x.on1.toArray⟩):=c29
   have b0:Below w.heap.size w (w.drewN n):=⟨rfl,rfl,rfl,Nat.le_refl _,fun _ _=>rfl⟩
   have HB0:=hide b0
   clear b0 c14 c29
   generalize w.drewN n = wd at *
   go_wp2_with fail
   refine (faulted_any _ k p v _ hlen).mono ?_
   rintro e w2 ⟨rfl,hb2⟩
   have HB:=hide (below_step HB0.out hb2)
   clear hb2
   cases hf:faultOf x.on1 k p v with
   | none =>
    have HE:Hid (faultE x k p v = 10 ∧ faultL x k p v = x):=by unfold Hid faultE faultL; rw [if_neg ha,if_neg ha,if_pos hc,if_pos hc,hf]; exact ⟨rfl,rfl⟩
    rw [show fV (none:Option (List UInt8)) = .tuple #[.string ⟨#[]⟩,.int .i64 10] from rfl]
    clear ha hf hc
    go_wp2
    go_ret
    rw [HE.out.1,HE.out.2]
    exact ⟨rfl,HK.out.below HB.out,Fr.of_below HB.out⟩
   | some l =>
    have HE:Hid (faultE x k p v = 0 ∧ faultL x k p v = { x with on1:=l }):=by unfold Hid faultE faultL; rw [if_neg ha,if_neg ha,if_pos hc,if_pos hc,hf]; exact ⟨rfl,rfl⟩
    rw [show fV (some l) = .tuple #[.string ⟨l.toArray⟩,.int .i64 0] from rfl]
    have d29:w2.cell? ⟨b,29,none⟩ = some (.string ⟨x.on1.toArray⟩):=(HB.out.cell hlt).trans (HL.out.sts.elim fun _ h=>h.elim fun _ h=>by have:=h.2.1.put; rw [HR.out.r1.put] at this; exact this)
    have g29:w2.frozen? ⟨b,29,none⟩ = false:=(HB.out.frozen hlt).trans f29
    clear ha hf hc c14' c29'
    have HLB:Hid (LnAt w2 F b x.c p0 p1):=HL.out.keep HB.out.size fun g _ hgl=>HB.out.block g hgl
    go_wp2
    go_ret
    rw [HE.out.1,HE.out.2]
    exact ⟨rfl,⟨p0,_,HLB.out.turn1 (fun G k=>k.put' l) ((Bes.refl b 25 _).set 4 (by omega) _),⟨HR.out.r0,rel_put l HR.out.r1⟩,w0,w1⟩,(Fr.of_below HB.out).trans ((Bes.refl b 25 _).set 4 (by omega) _).fr (fun _ _ h=>h)⟩
  ·have HS:Hid (spk x.on0 x.on1 b = none):=by unfold Hid spk; rw [if_neg ha,if_neg hc]
   have HE:Hid (faultE x k p v = 9 ∧ faultL x k p v = x):=by unfold Hid faultE faultL; rw [if_neg ha,if_neg ha,if_neg hc,if_neg hc]; exact ⟨rfl,rfl⟩
   rw [HE.out.1,HE.out.2]
   clear ha hc
   go_enter Tryz.func37,Tryz.ntmps37
   go_wp2_with fail
   refine (speaker_any b _ _ _ c14 c29).mono ?_
   rintro e wx ⟨rfl,n,rfl⟩
   rw [HS.out]
   have b0:Below w.heap.size w (w.drewN n):=⟨rfl,rfl,rfl,Nat.le_refl _,fun _ _=>rfl⟩
   have HB0:=hide b0
   clear b0 c14 c29
   generalize w.drewN n = wd at *
   go_wp2
   go_ret
   exact ⟨rfl,HK.out.below HB0.out,Fr.of_below HB0.out⟩
end Go.Proofs.YtlbpjcphhocdkaaGreat
