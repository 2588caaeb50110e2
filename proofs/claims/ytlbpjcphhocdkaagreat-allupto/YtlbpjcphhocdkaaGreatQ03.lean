/- Plain: the line and its two stations, of no program: what each station does in a tick (P7 to P15). Plain: one speaks: where both stations have something on the line both bid; where one is Sending the other is Receiving; .. -/
import Derived.Test.YtlbpjcphhocdkaaGreatQ01
import Derived.Test.YtlbpjcphhocdkaaGreatQ02
import Derived.ArgAppend
set_option maxRecDepth 1000000
set_option maxHeartbeats 16000000
namespace Go.Proofs.YtlbpjcphhocdkaaGreat.Mod
structure Msg where
 head:List UInt8
 text:List UInt8
 clear:Bool
 deriving DecidableEq
structure Bk where
 head:List UInt8
 parts:List (List UInt8)
 clear:Bool
 last:Bool
 deriving DecidableEq
structure Cfg where
 check:Nat
 size:Nat
 parts:Nat
 queue:Nat
 first:Nat
 second:Nat
 reply:Nat
 lost:Nat
 tries:Nat
 waits:Nat
 deriving DecidableEq
/-- P7's bounds. -/
structure Cfg.Ok (c:Cfg):Prop where
 check:c.check ≤ 1
 size:1 ≤ c.size ∧ c.size ≤ 32
 parts:1 ≤ c.parts ∧ c.parts ≤ 4
 queue:1 ≤ c.queue ∧ c.queue ≤ 8
 first:3 ≤ c.first
 second:c.first < c.second ∧ c.second ≤ 20
 reply:3 ≤ c.reply ∧ c.reply ≤ 20
 tries:1 ≤ c.tries ∧ c.tries ≤ 7
 waits:c.waits ≤ 7
 lost:(c.tries + 2) * c.reply + 2 ≤ c.lost ∧ c.lost ≤ 255
/-- A station. mode: Idle 0,Bidding 1,Sending 2,Receiving 3; due: the tick in which its wait is over; rest: the first tick in which it may bid again. -/
structure Stn where
 mode:Nat
 busy:Bool
 queue:List Msg
 joined:Nat
 due:Nat
 rest:Nat
 tries:Nat
 off:Nat
 free:Bool
 block:Nat
 count:Nat
 got:List Bk
structure Ev where
 kind:Nat
 station:Nat
 number:Nat
 msg:Msg
 deriving DecidableEq
/-- What a station puts on the line. -/
inductive Put where
 | nil
 | short (k:Nat)
 | blk (b:Bk)
 deriving DecidableEq
/-- P11: a list in pieces of n. -/
def chunk {α:Type} (n:Nat):Nat → List α → List (List α)
 | 0,l=>[l]
 | f + 1,l=>if l.length ≤ n then [l] else l.take n::chunk n f (l.drop n)
def pieces (c:Cfg) (m:Msg):List (List UInt8):=chunk c.size m.text.length m.text
def groups (c:Cfg) (m:Msg):List (List (List UInt8)):=chunk c.parts (pieces c m).length (pieces c m)
def blkAt (c:Cfg) (m:Msg) (j:Nat):Bk :=
 { head:=if j = 0 then m.head else [],parts:=(groups c m).getD j [],clear:=m.clear,last:=decide (j + 1 = (groups c m).length) }
def nblk (c:Cfg) (m:Msg):Nat:=(groups c m).length
def noMsg:Msg:=⟨[],[],false⟩
def yesN (n:Nat):Nat:=7 + n % 2
def patience (c:Cfg) (i mode:Nat):Nat:=if mode = 2 then c.reply else if mode = 3 then c.lost else if i = 0 then c.first else c.second
abbrev Did:=Stn × Put × Option Ev
def ends (now i:Nat) (s:Stn) (kind:Nat):Did :=
 ({ s with queue:=s.queue.tail,mode:=0,rest:=now + 3 },(if s.mode = 2 then .short 5 else .nil),some ⟨kind,i,s.joined - s.queue.length + 1,noMsg⟩)
def answers (c:Cfg) (now:Nat) (s:Stn):Did :=
 if s.busy then ({ s with got:=[],count:=0,mode:=0 },.short 9,none)
 else ({ s with got:=[],count:=0,mode:=3,due:=now + c.lost },.short 7,none)
def later (c:Cfg) (now i:Nat) (s:Stn):Did :=
 if s.off + 1 > c.waits then ends now i { s with off:=s.off + 1 } 3
 else ({ s with off:=s.off + 1,free:=true,due:=now + patience c i s.mode },.nil,none)
def sendBlk (c:Cfg) (now:Nat) (s:Stn):Did :=
 ({ s with due:=now + c.reply },.blk (blkAt c (s.queue.headD noMsg) s.block),none)
def tells (s:Stn):Put:=if s.busy then .short 9 else .short (yesN s.count)
/-- The kind of what is heard. -/
def kindOf:Ans → Nat
 | .data ..=>2
 | .none n=>n
def joinedM (l:List Bk):Msg :=
 { head:=(l.map (·.head)).flatten,text:=(l.map (·.parts.flatten)).flatten,clear:=(l.getLast?.map (·.clear)).getD false }
def takes (c:Cfg) (now i:Nat) (s:Stn) (b:Bk):Did :=
 if (joinedM (s.got ++ [b])).head.length > 8 ∨ (joinedM (s.got ++ [b])).text.length > 200 then ({ s with due:=now + c.lost },.short 6,none)
 else if b.last then ({ s with due:=now + c.lost,count:=s.count + 1,got:=[] },tells { s with count:=s.count + 1 },some ⟨1,i,0,joinedM (s.got ++ [b])⟩)
 else ({ s with due:=now + c.lost,count:=s.count + 1,got:=s.got ++ [b] },tells { s with count:=s.count + 1 },none)
/-- P10 to P12,by its mode and what it heard; none: that is not named. -/
def idle (c:Cfg) (now:Nat) (s:Stn) (h:Ans):Option Did:=if kindOf h = 3 then some (answers c now s) else none
def bidding (c:Cfg) (now i:Nat) (s:Stn) (h:Ans):Option Did :=
 if kindOf h = 7 then some (sendBlk c now { s with mode:=2,block:=0,tries:=1,off:=0,free:=false })
 else if kindOf h = 9 then some (later c now i s)
 else if kindOf h = 3 ∧ i = 1 then some (answers c now s)
 else none
def sending (c:Cfg) (now i:Nat) (s:Stn) (h:Ans):Option Did :=
 if kindOf h = yesN (s.block + 1) then
  if s.block + 1 = nblk c (s.queue.headD noMsg) then some (ends now i s 2)
  else some (sendBlk c now { s with block:=s.block + 1,tries:=1,off:=0,free:=false })
 else if kindOf h = 7 ∨ kindOf h = 8 ∨ kindOf h = 6 then
  if s.tries > c.tries then some (ends now i s 3) else some (sendBlk c now { s with tries:=s.tries + 1,free:=false })
 else if kindOf h = 9 then some (later c now i s)
 else none
def receiving (c:Cfg) (now i:Nat) (s:Stn) (h:Ans):Option Did :=
 match h with
 | .data hd ps cl la=>some (takes c now i s ⟨hd,ps,cl,la⟩)
 | .none n =>
  if n = 1 then some ({ s with due:=now + c.lost },.short 6,none)
  else if n = 4 then some ({ s with due:=now + c.lost },tells s,none)
  else if n = 3 then some (answers c now s)
  else if n = 5 then some ({ s with mode:=0,got:=[] },.nil,none)
  else none
def named (c:Cfg) (now i:Nat) (s:Stn) (h:Ans):Option Did :=
 if s.mode = 1 then bidding c now i s h else if s.mode = 2 then sending c now i s h else if s.mode = 3 then receiving c now i s h else idle c now s h
def over (c:Cfg) (now i:Nat) (s:Stn):Did :=
 if s.mode = 3 then ({ s with mode:=0,got:=[] },.nil,none)
 else if s.free = false ∧ s.tries > c.tries then ends now i s 3
 else ({ s with tries:=(if s.free then s.tries else s.tries + 1),free:=false,due:=now + patience c i s.mode },.short (if s.mode = 2 then 4 else 3),none)
def bids (c:Cfg) (now i:Nat) (s:Stn):Did :=
 ({ s with mode:=1,tries:=1,off:=0,free:=false,due:=now + patience c i 1 },.short 3,none)
/-- What a station does in a tick. -/
def one (c:Cfg) (now i:Nat) (s:Stn) (h:Ans):Did :=
 match named c now i s h with
 | some d=>d
 | none =>
  if s.mode ≠ 0 ∧ now = s.due then over c now i s
  else if s.mode = 0 ∧ s.queue ≠ [] ∧ s.rest ≤ now then bids c now i s
  else (s,.nil,none)
/-- The bytes of what is put. -/
def txOf (c:Cfg):Put → List UInt8
 | .nil=>[]
 | .short k=>[22,22] ++ sbody k ++ [255]
 | .blk b=>[22,22] ++ Blk.body b.head b.parts b.clear b.last c.check ++ [255]
/-- What is heard of some bytes. -/
theorem reads_some (k:Int) (l:List UInt8):∃ A,ReadsAs k l A:=by
 cases hb:begins (Prs.restL l)
 ·by_cases h:∃ n:Nat,3 ≤ n ∧ n ≤ 9 ∧ Prs.restL l = sbody n ++ [255]
  ·obtain ⟨n,h1,h2,h3⟩:=h
   exact ⟨.none n,Or.inr ⟨hb,Or.inl ⟨h1,h2,h3⟩⟩⟩
  ·exact ⟨.none 0,Or.inr ⟨hb,Or.inr ⟨rfl,fun m a b e=>h ⟨m,a,b,e⟩⟩⟩⟩
 ·by_cases h:∃ h0 ps0 c0 t0,Prs.Good k (Prs.restL l) h0 ps0 c0 t0 [255]
  ·obtain ⟨h0,ps0,c0,t0,g⟩:=h
   exact ⟨.data h0 ps0 c0 t0,hb,g⟩
  ·exact ⟨.none 1,Or.inl ⟨hb,rfl,fun h0 ps0 c0 t0 g=>h ⟨h0,ps0,c0,t0,g⟩⟩⟩
noncomputable def hear (c:Cfg) (l:List UInt8):Ans:=Classical.choose (reads_some c.check l)
theorem hear_reads (c:Cfg) (l:List UInt8):ReadsAs c.check l (hear c l):=Classical.choose_spec (reads_some c.check l)
theorem hear_is {c:Cfg} {l:List UInt8} {A:Ans} (h:ReadsAs c.check l A):hear c l = A:=(hear_reads c l).one h
structure Ln where
 c:Cfg
 now:Nat
 s0:Stn
 s1:Stn
 on0:List UInt8
 on1:List UInt8
def newS:Stn:=⟨0,false,[],0,0,0,0,0,false,0,0,[]⟩
def newL (c:Cfg):Ln:=⟨c,0,newS,newS,[],[]⟩
noncomputable def hears0 (x:Ln):Ans:=if x.on0 ≠ [] then .none 0 else hear x.c x.on1
noncomputable def hears1 (x:Ln):Ans:=if x.on1 ≠ [] then .none 0 else hear x.c x.on0
noncomputable def did0 (x:Ln):Did:=one x.c (x.now + 1) 0 x.s0 (hears0 x)
noncomputable def did1 (x:Ln):Did:=one x.c (x.now + 1) 1 x.s1 (hears1 x)
noncomputable def tick (x:Ln):Ln :=
 { x with now:=x.now + 1,s0:=(did0 x).1,s1:=(did1 x).1,on0:=txOf x.c (did0 x).2.1,on1:=txOf x.c (did1 x).2.1 }
noncomputable def events (x:Ln):List Ev:=(did0 x).2.2.toList ++ (did1 x).2.2.toList
/-- A station by itself,behind the tick now in which it put p. -/
structure StOk (c:Cfg) (now i:Nat) (s:Stn) (p:Put):Prop where
 mode:s.mode ≤ 3
 bid:s.mode = 1 → now < s.due ∧ s.due ≤ now + patience c i 1 ∧ 1 ≤ s.tries ∧ s.tries ≤ c.tries + 1
 snd:s.mode = 2 → now < s.due ∧ s.due ≤ now + c.reply ∧ 1 ≤ s.tries ∧ s.tries ≤ c.tries + 1
 rcv:s.mode = 3 → now < s.due ∧ s.due ≤ now + c.lost
 que:s.mode = 1 ∨ s.mode = 2 → s.queue ≠ []
 put:p = .nil ∨ (p = .short 3 ∧ s.mode = 1 ∧ s.due = now + patience c i 1) ∨ (p = .short 4 ∧ s.mode = 2 ∧ s.due = now + c.reply) ∨ (p = .short 5 ∧ s.mode = 0 ∧ s.rest = now + 3)
  ∨ ((p = .short 6 ∨ p = .short 7 ∨ p = .short 8) ∧ s.mode = 3 ∧ s.due = now + c.lost) ∨ (p = .short 9 ∧ s.mode = 3 ∧ s.due = now + c.lost) ∨ (p = .short 9 ∧ s.mode = 0) ∨ (∃ b,p = .blk b ∧ s.mode = 2 ∧ s.due = now + c.reply)
theorem patience_ge {c:Cfg} (h:c.Ok) (i m:Nat):3 ≤ patience c i m:=by
 have:=h.first; have:=h.second; have:=h.reply; have:=h.lost
 unfold patience
 have:2 ≤ (c.tries + 2) * c.reply:=Nat.le_trans (show 2 ≤ 2 * 3 by decide) (Nat.mul_le_mul (by omega) (by omega))
 split
 ·omega
 ·split
  ·omega
  ·split <;> omega
theorem yes_or (n:Nat):yesN n = 7 ∨ yesN n = 8:=by unfold yesN; omega
/-- What each step of a station leaves. -/
theorem ends_ok {c:Cfg} {now i:Nat} {s:Stn} {k:Nat}:StOk c now i (ends now i s k).1 (ends now i s k).2.1 ∧ (ends now i s k).1.mode = 0:=by
 refine ⟨⟨by simp [ends],by simp [ends],by simp [ends],by simp [ends],by simp [ends],?_⟩,rfl⟩
 unfold ends
 by_cases h:s.mode = 2
 ·simp only [h,if_true]
  right; right; right; left
  simp
 ·simp only [h,if_false]
  left; trivial
theorem answers_ok {c:Cfg} {now i:Nat} {s:Stn} (hc:c.Ok):StOk c now i (answers c now s).1 (answers c now s).2.1 ∧ ((answers c now s).1.mode = 0 ∨ (answers c now s).1.mode = 3):=by
 have hl:=patience_ge hc 0 3
 have:patience c 0 3 = c.lost:=rfl
 rw [this] at hl
 unfold answers
 by_cases h:s.busy = true
 ·rw [if_pos h]
  refine ⟨⟨by simp,by simp,by simp,by simp,by simp,?_⟩,Or.inl rfl⟩
  right; right; right; right; right; right; left
  simp
 ·rw [if_neg h]
  refine ⟨⟨by simp,by simp,by simp,?_,by simp,?_⟩,Or.inr rfl⟩
  ·simp; omega
  ·right; right; right; right; left
   simp
theorem sendBlk_ok {c:Cfg} {now i:Nat} {s:Stn} (hc:c.Ok) (hm:s.mode = 2) (ht:1 ≤ s.tries ∧ s.tries ≤ c.tries + 1) (hq:s.queue ≠ []):StOk c now i (sendBlk c now s).1 (sendBlk c now s).2.1:=by
 have:=hc.reply
 unfold sendBlk
 refine ⟨by simp [hm],by simp [hm],?_,by simp [hm],fun _=>hq,?_⟩
 ·intro _; simp; omega
 ·right; right; right; right; right; right; right
  exact ⟨_,rfl,hm,rfl⟩
theorem later_ok {c:Cfg} {now i:Nat} {s:Stn} (hc:c.Ok) (hm:s.mode = 1 ∨ s.mode = 2) (ht:1 ≤ s.tries ∧ s.tries ≤ c.tries + 1) (hq:s.queue ≠ []):StOk c now i (later c now i s).1 (later c now i s).2.1 ∧ ((later c now i s).1.mode = 0 ∨ (later c now i s).1.mode = s.mode ∧ (later c now i s).2.1 = .nil):=by
 have hp:=patience_ge hc i s.mode
 unfold later
 split
 ·exact ⟨ends_ok.1,Or.inl rfl⟩
 ·refine ⟨⟨?_,?_,?_,?_,fun _=>hq,Or.inl rfl⟩,Or.inr ⟨rfl,rfl⟩⟩
  ·rcases hm with h | h <;> simp [h]
  ·intro h1
   simp only at h1 ⊢
   rw [h1] at hp ⊢
   omega
  ·intro h1
   simp only at h1 ⊢
   rw [h1] at hp ⊢
   have:patience c i 2 = c.reply:=rfl
   rw [this] at hp ⊢
   omega
  ·intro h1
   simp only at h1
   omega
theorem over_ok {c:Cfg} {now i:Nat} {s:Stn} (hc:c.Ok) (hm:s.mode = 1 ∨ s.mode = 2 ∨ s.mode = 3) (ht:s.mode ≠ 3 → 1 ≤ s.tries ∧ s.tries ≤ c.tries + 1) (hq:s.mode ≠ 3 → s.queue ≠ []):StOk c now i (over c now i s).1 (over c now i s).2.1 ∧ ((over c now i s).1.mode = 0 ∨ (over c now i s).1.mode = s.mode ∧ s.mode ≠ 3):=by
 have hp:=patience_ge hc i s.mode
 unfold over
 by_cases h3:s.mode = 3
 ·rw [if_pos h3]
  exact ⟨⟨by simp,by simp,by simp,by simp,by simp,Or.inl rfl⟩,Or.inl rfl⟩
 ·rw [if_neg h3]
  have ht:=ht h3
  have hq:=hq h3
  split
  ·exact ⟨ends_ok.1,Or.inl rfl⟩
  ·rename_i hx
   have hx':s.free = true ∨ s.tries ≤ c.tries:=by
    cases hf:s.free
    ·right
     rcases Nat.lt_or_ge c.tries s.tries with h | h
     ·exact absurd ⟨hf,h⟩ hx
     ·exact h
    ·exact Or.inl rfl
   have htt:1 ≤ (if s.free = true then s.tries else s.tries + 1) ∧ (if s.free = true then s.tries else s.tries + 1) ≤ c.tries + 1:=by
    split
    ·exact ht
    ·rename_i hf
     rcases hx' with h | h
     ·exact absurd h hf
     ·omega
   have hm':s.mode = 1 ∨ s.mode = 2:=by omega
   refine ⟨⟨?_,?_,?_,?_,fun _=>hq,?_⟩,Or.inr ⟨rfl,h3⟩⟩
   ·rcases hm' with h | h <;> simp [h]
   ·intro h1
    simp only at h1 ⊢
    rw [h1] at hp ⊢
    omega
   ·intro h1
    simp only at h1 ⊢
    rw [h1] at hp ⊢
    have:patience c i 2 = c.reply:=rfl
    rw [this] at hp ⊢
    omega
   ·intro h1
    simp only at h1
    omega
   ·rcases hm' with h | h
    ·right; left
     simp only [h]
     simp
    ·right; right; left
     simp only [h]
     simp
     rfl
theorem bids_ok {c:Cfg} {now i:Nat} {s:Stn} (hc:c.Ok) (hq:s.queue ≠ []):StOk c now i (bids c now i s).1 (bids c now i s).2.1:=by
 have hp:=patience_ge hc i 1
 unfold bids
 refine ⟨by simp,?_,by simp,by simp,fun _=>hq,?_⟩
 ·intro _; simp; omega
 ·right; left; simp
theorem tells_short (s:Stn):tells s = .short 9 ∨ tells s = .short 7 ∨ tells s = .short 8:=by
 unfold tells
 split
 ·exact Or.inl rfl
 ·rcases yes_or s.count with h | h <;> simp [h]
theorem rcv_ok {c:Cfg} {now i:Nat} {s:Stn} {p:Put} (hc:c.Ok) (hm:s.mode = 3) (hd:s.due = now + c.lost) (hp:p = .short 6 ∨ p = .short 7 ∨ p = .short 8 ∨ p = .short 9):StOk c now i s p:=by
 have hl:=patience_ge hc 0 3
 have:patience c 0 3 = c.lost:=rfl
 rw [this] at hl
 refine ⟨by omega,by omega,by omega,fun _=>by omega,by omega,?_⟩
 rcases hp with h | h | h | h
 ·right; right; right; right; left; exact ⟨Or.inl h,hm,hd⟩
 ·right; right; right; right; left; exact ⟨Or.inr (Or.inl h),hm,hd⟩
 ·right; right; right; right; left; exact ⟨Or.inr (Or.inr h),hm,hd⟩
 ·right; right; right; right; right; left; exact ⟨h,hm,hd⟩
theorem takes_ok {c:Cfg} {now i:Nat} {s:Stn} {b:Bk} (hc:c.Ok) (hm:s.mode = 3):StOk c now i (takes c now i s b).1 (takes c now i s b).2.1 ∧ (takes c now i s b).1.mode = 3:=by
 unfold takes
 split
 ·exact ⟨rcv_ok hc hm rfl (Or.inl rfl),hm⟩
 ·split
  ·refine ⟨rcv_ok hc hm rfl ?_,hm⟩
   rcases tells_short { s with count:=s.count + 1 } with h | h | h <;> simp [h]
  ·refine ⟨rcv_ok hc hm rfl ?_,hm⟩
   rcases tells_short { s with count:=s.count + 1 } with h | h | h <;> simp [h]
theorem stay_ok {c:Cfg} {now i:Nat} {s:Stn} {p:Put} (hs:StOk c now i s p) (hd:s.mode ≠ 0 → now + 1 ≠ s.due):StOk c (now + 1) i s .nil:=by
 refine ⟨hs.mode,fun h=>?_,fun h=>?_,fun h=>?_,hs.que,Or.inl rfl⟩
 ·have:=hs.bid h; have:=hd (by omega); omega
 ·have:=hs.snd h; have:=hd (by omega); omega
 ·have:=hs.rcv h; have:=hd (by omega); omega
/-- A tick leaves each station so. -/
theorem one_ok {c:Cfg} {now i:Nat} {s:Stn} {p:Put} {h:Ans} (hc:c.Ok) (hs:StOk c now i s p):StOk c (now + 1) i (one c (now + 1) i s h).1 (one c (now + 1) i s h).2.1:=by
 unfold one named
 by_cases h1:s.mode = 1
 ·have hb:=hs.bid h1
  have hq:=hs.que (Or.inl h1)
  rw [if_pos h1]
  unfold bidding
  split
  ·rename_i d hd
   split at hd
   ·cases hd
    exact sendBlk_ok hc rfl (by simp) hq
   ·split at hd
    ·cases hd
     exact (later_ok hc (Or.inl h1) ⟨hb.2.2.1,hb.2.2.2⟩ hq).1
    ·split at hd
     ·cases hd
      exact (answers_ok hc).1
     ·cases hd
  ·split
   ·exact (over_ok hc (Or.inl h1) (fun _=>⟨hb.2.2.1,hb.2.2.2⟩) (fun _=>hq)).1
   ·rename_i hx
    split
    ·omega
    ·exact stay_ok hs (fun h0 e=>hx ⟨h0,e⟩)
 ·rw [if_neg h1]
  by_cases h2:s.mode = 2
  ·have hb:=hs.snd h2
   have hq:=hs.que (Or.inr h2)
   rw [if_pos h2]
   unfold sending
   split
   ·rename_i d hd
    split at hd
    ·split at hd
     ·cases hd; exact ends_ok.1
     ·cases hd; exact sendBlk_ok hc h2 (by simp) hq
    ·split at hd
     ·split at hd
      ·cases hd; exact ends_ok.1
      ·cases hd; exact sendBlk_ok hc h2 (by simp; omega) hq
     ·split at hd
      ·cases hd
       exact (later_ok hc (Or.inr h2) ⟨hb.2.2.1,hb.2.2.2⟩ hq).1
      ·cases hd
   ·split
    ·exact (over_ok hc (Or.inr (Or.inl h2)) (fun _=>⟨hb.2.2.1,hb.2.2.2⟩) (fun _=>hq)).1
    ·rename_i hx
     split
     ·omega
     ·exact stay_ok hs (fun h0 e=>hx ⟨h0,e⟩)
  ·rw [if_neg h2]
   by_cases h3:s.mode = 3
   ·have hb:=hs.rcv h3
    rw [if_pos h3]
    unfold receiving
    split
    ·rename_i d hd
     cases h with
     | data hd0 ps cl la=>cases hd; exact (takes_ok hc h3).1
     | none n =>
      simp only at hd
      split at hd
      ·cases hd; exact rcv_ok hc h3 rfl (Or.inl rfl)
      ·split at hd
       ·cases hd
        refine rcv_ok hc h3 rfl ?_
        rcases tells_short s with h | h | h <;> simp [h]
       ·split at hd
        ·cases hd; exact (answers_ok hc).1
        ·split at hd
         ·cases hd
          exact ⟨by simp,by simp,by simp,by simp,by simp,Or.inl rfl⟩
         ·cases hd
    ·split
     ·exact (over_ok hc (Or.inr (Or.inr h3)) (fun h=>absurd h3 h) (fun h=>absurd h3 h)).1
     ·rename_i hx
      split
      ·omega
      ·exact stay_ok hs (fun h0 e=>hx ⟨h0,e⟩)
   ·rw [if_neg h3]
    have h0:s.mode = 0:=by have:=hs.mode; omega
    unfold idle
    split
    ·rename_i d hd
     split at hd
     ·cases hd; exact (answers_ok hc).1
     ·cases hd
    ·split
     ·omega
     ·split
      ·rename_i hx
       exact bids_ok hc hx.2.1
      ·exact stay_ok hs (fun h=>absurd h0 h)
theorem chunk_flatten {α:Type} (n:Nat):∀ f (l:List α),(chunk n f l).flatten = l
 | 0,l=>by simp [chunk]
 | f + 1,l=>by
  unfold chunk
  split
  ·simp
  ·rw [List.flatten_cons,chunk_flatten n f,List.take_append_drop]
theorem chunk_ne {α:Type} (n:Nat):∀ f (l:List α),chunk n f l ≠ []
 | 0,l=>by simp [chunk]
 | f + 1,l=>by unfold chunk; split <;> simp
theorem chunk_le {α:Type} (n:Nat) (hn:1 ≤ n):∀ f (l:List α),l.length ≤ f → ∀ x ∈ chunk n f l,x.length ≤ n
 | 0,l,h,x,hx=>by
  simp [chunk] at hx
  subst hx
  omega
 | f + 1,l,h,x,hx=>by
  unfold chunk at hx
  split at hx
  ·simp at hx; subst hx; assumption
  ·rcases List.mem_cons.1 hx with rfl | hx
   ·simp; omega
   ·exact chunk_le n hn f _ (by simp; omega) x hx
theorem nblk_pos (c:Cfg) (m:Msg):1 ≤ nblk c m:=by
 unfold nblk groups
 have:=chunk_ne c.parts (pieces c m).length (pieces c m)
 cases h:chunk c.parts (pieces c m).length (pieces c m) with
 | nil=>exact absurd h this
 | cons a l=>simp
end Go.Proofs.YtlbpjcphhocdkaaGreat.Mod
namespace Go.Proofs.YtlbpjcphhocdkaaGreat.Pst
open Go.Proofs.YtlbpjcphhocdkaaGreat.Mod
/-- The station's fields. -/
structure PS where
 side:Nat
 q:List Msg
 joined:Nat
 busy:Bool
 put:List UInt8
 mode:Nat
 wait:Nat
 rest:Nat
 tries:Nat
 off:Nat
 free:Bool
 block:Nat
 head:List UInt8
 text:List UInt8
 yes:Nat
def shortB (k:Nat):List UInt8:=[22,22] ++ sbody k ++ [255]
def wt (c:Cfg) (s:PS):Nat:=if s.mode = 1 then (if s.side = 1 then c.second else c.first) else if s.mode = 2 then c.reply else if s.mode = 3 then c.lost else s.wait
def beginWait (c:Cfg) (s:PS):PS:={ s with wait:=wt c s }
def putShort (k:Nat) (s:PS):PS:={ s with put:=shortB k }
def becomeIdle (s:PS):PS:={ s with mode:=0,wait:=0,tries:=0,off:=0,free:=false,block:=0,head:=[],text:=[],yes:=0 }
def answer (c:Cfg) (s:PS):PS:=if s.busy then putShort 9 (becomeIdle s) else beginWait c (putShort 7 { becomeIdle s with mode:=3,yes:=7 })
def bid (c:Cfg) (s:PS):PS:=beginWait c (putShort 3 { s with mode:=1,tries:=1,off:=0,free:=false,block:=0 })
def message (s:PS):Msg:=s.q.headD noMsg
def number (s:PS):Nat:=s.joined - s.q.length + 1
def leave (s:PS):PS:={ s with q:=s.q.tail }
def finish (kind:Nat) (s:PS):PS × Option Ev :=
 ({ becomeIdle (leave (if s.mode = 2 then putShort 5 s else s)) with rest:=3 },some ⟨kind,s.side,number s,noMsg⟩)
def putOff (c:Cfg) (s:PS):PS × Option Ev :=
 if s.off + 1 > c.waits then finish 3 { s with off:=s.off + 1 } else (beginWait c { s with off:=s.off + 1,free:=true },none)
def tryAgain (k:Nat) (c:Cfg) (s:PS):PS × Option Ev :=
 if s.free = false ∧ s.tries > c.tries then finish 3 s else (beginWait c (putShort k { s with tries:=(if s.free then s.tries else s.tries + 1),free:=false }),none)
def putBlock (c:Cfg) (s:PS):PS:={ s with put:=txOf c (.blk (blkAt c (message s) s.block)) }
def send (k:Nat) (c:Cfg) (s:PS):PS:=beginWait c (putBlock c { s with mode:=2,tries:=1,off:=0,free:=false,block:=k })
def sendNext (c:Cfg) (s:PS):PS × Option Ev:=if (blkAt c (message s) s.block).last then finish 2 s else (send (s.block + 1) c s,none)
def sendAgain (c:Cfg) (s:PS):PS × Option Ev :=
 if s.tries > c.tries then finish 3 s else (beginWait c (putBlock c { s with tries:=s.tries + 1,free:=false }),none)
def expectedYes (b:Nat):Nat:=if b % 2 = 0 then 8 else 7
def otherYes (y:Nat):Nat:=if y = 7 then 8 else 7
def putYes (s:PS):PS:=if s.busy then putShort 9 s else putShort s.yes s
def receive (b:Bk) (s:PS):PS × Option Ev :=
 if (s.head ++ b.head).length > 8 ∨ (s.text ++ b.parts.flatten).length > 200 then (putShort 6 s,none)
 else if b.last then
  ({ putYes { s with head:=s.head ++ b.head,text:=s.text ++ b.parts.flatten,yes:=otherYes s.yes } with head:=[],text:=[] },some ⟨1,s.side,0,⟨s.head ++ b.head,s.text ++ b.parts.flatten,b.clear⟩⟩)
 else (putYes { s with head:=s.head ++ b.head,text:=s.text ++ b.parts.flatten,yes:=otherYes s.yes },none)
def actIdle (k:Nat) (c:Cfg) (s:PS):PS :=
 if k = 3 then answer c s else if s.q ≠ [] ∧ s.rest = 0 then bid c s else s
def actBidding (k:Nat) (c:Cfg) (s:PS):PS × Option Ev :=
 if k = 7 then (send 0 c s,none) else if k = 9 then putOff c s else if k = 3 ∧ s.side = 1 then (answer c s,none) else if s.wait = 0 then tryAgain 3 c s else (s,none)
def actSending (k:Nat) (c:Cfg) (s:PS):PS × Option Ev :=
 if k = expectedYes s.block then sendNext c s else if k = 7 ∨ k = 8 ∨ k = 6 then sendAgain c s else if k = 9 then putOff c s else if s.wait = 0 then tryAgain 4 c s else (s,none)
def actReceiving (h:Ans) (c:Cfg) (s:PS):PS × Option Ev :=
 match h with
 | .data hd ps cl la=>receive ⟨hd,ps,cl,la⟩ (beginWait c s)
 | .none n =>
  if n = 1 then (beginWait c (putShort 6 s),none)
  else if n = 4 then (beginWait c (putYes s),none)
  else if n = 3 then (answer c s,none)
  else if n = 5 ∨ s.wait = 0 then (becomeIdle s,none)
  else (s,none)
def less (s:PS):PS:={ s with wait:=s.wait - 1,rest:=s.rest - 1 }
def act (h:Ans) (c:Cfg) (s:PS):PS × Option Ev :=
 if s.mode = 1 then actBidding (kindOf h) c (less s) else if s.mode = 2 then actSending (kindOf h) c (less s) else if s.mode = 3 then actReceiving h c (less s) else (actIdle (kindOf h) c (less s),none)
/-- The fields p stand for the station s behind the tick now; on the line it has l. -/
structure Rel (now i:Nat) (s:Stn) (l:List UInt8) (p:PS):Prop where
 side:p.side = i
 q:p.q = s.queue
 joined:p.joined = s.joined
 busy:p.busy = s.busy
 put:p.put = l
 mode:p.mode = s.mode
 rest:p.rest = s.rest - now
 wait:s.mode ≠ 0 → p.wait = s.due - now
 own:s.mode = 1 ∨ s.mode = 2 → p.tries = s.tries ∧ p.off = s.off ∧ p.free = s.free
 block:s.mode = 2 → p.block = s.block
 got:s.mode = 3 → p.head = (joinedM s.got).head ∧ p.text = (joinedM s.got).text ∧ p.yes = yesN s.count
/-- The station and what it has put,behind a tick. -/
def RelD (c:Cfg) (now i:Nat) (d:Did) (r:PS × Option Ev):Prop:=Rel now i d.1 (txOf c d.2.1) r.1 ∧ r.2 = d.2.2
theorem yesN_other (n:Nat):otherYes (yesN n) = yesN (n + 1):=by unfold otherYes yesN; split <;> omega
theorem yesN_exp (n:Nat):expectedYes n = yesN (n + 1):=by unfold expectedYes yesN; split <;> omega
theorem finish_rel {c:Cfg} {now i:Nat} {s:Stn} {p:PS} {l:List UInt8} (k:Nat) (h:Rel now i s l p) (hp:p.put = []):RelD c now i (ends now i s k) (finish k p):=by
 refine ⟨⟨?_,?_,?_,?_,?_,?_,?_,?_,?_,?_,?_⟩,?_⟩
 all_goals simp only [ends,finish,becomeIdle,leave]
 ·rw [← h.side]; split <;> rfl
 ·rw [← h.q]; split <;> rfl
 ·rw [← h.joined]; split <;> rfl
 ·rw [← h.busy]; split <;> rfl
 ·rw [← h.mode]
  split
  ·rfl
  ·exact hp
 ·omega
 ·simp
 ·simp
 ·simp
 ·simp
 ·simp only [number]; rw [h.side,h.joined,h.q]
theorem answer_rel {c:Cfg} {now i:Nat} {s:Stn} {p:PS} {l:List UInt8} (h:Rel now i s l p):RelD c now i (answers c now s) (answer c p,none):=by
 unfold answers answer
 have hbb:=h.busy
 cases hb:s.busy
 ·rw [hb] at hbb
  rw [hbb,if_neg (by decide),if_neg (by decide)]
  refine ⟨⟨h.side,h.q,h.joined,hbb,rfl,rfl,h.rest,?_,by simp,by simp,?_⟩,rfl⟩
  ·intro _
   simp [beginWait,putShort,wt]
  ·intro _
   exact ⟨rfl,rfl,rfl⟩
 ·rw [hb] at hbb
  rw [hbb,if_pos rfl,if_pos rfl]
  exact ⟨⟨h.side,h.q,h.joined,hbb,rfl,rfl,h.rest,by simp,by simp,by simp,by simp⟩,rfl⟩
theorem later_rel {c:Cfg} {now i:Nat} {s:Stn} {p:PS} {l:List UInt8} (h:Rel now i s l p) (hp:p.put = []) (hm:s.mode = 1 ∨ s.mode = 2) (hi:i = 0 ∨ i = 1):RelD c now i (later c now i s) (putOff c p):=by
 obtain ⟨o1,o2,o3⟩:=h.own hm
 have h':Rel now i { s with off:=s.off + 1 } l { p with off:=p.off + 1 }:=⟨h.side,h.q,h.joined,h.busy,h.put,h.mode,h.rest,h.wait,fun _=>⟨o1,by simp [o2],o3⟩,h.block,h.got⟩
 unfold later putOff
 rw [o2]
 rw [o2] at h'
 split
 ·exact finish_rel 3 h' hp
 ·refine ⟨⟨h.side,h.q,h.joined,h.busy,hp,h.mode,h.rest,?_,fun _=>⟨o1,by simp [beginWait],rfl⟩,h.block,h.got⟩,rfl⟩
  intro _
  simp only [beginWait,wt,patience,h.mode,h.side]
  rcases hm with hm | hm <;> rcases hi with rfl | rfl <;> simp [hm]
theorem try_rel {c:Cfg} {now i:Nat} {s:Stn} {p:PS} {l:List UInt8} (k:Nat) (h:Rel now i s l p) (hp:p.put = []) (hm:s.mode = 1 ∨ s.mode = 2) (hi:i = 0 ∨ i = 1) (hk:k = if s.mode = 2 then 4 else 3):RelD c now i (over c now i s) (tryAgain k c p):=by
 obtain ⟨o1,o2,o3⟩:=h.own hm
 have h3:s.mode ≠ 3:=by omega
 unfold over tryAgain
 rw [if_neg h3,o1,o3]
 split
 ·exact finish_rel 3 h hp
 ·subst hk
  refine ⟨⟨h.side,h.q,h.joined,h.busy,rfl,h.mode,h.rest,?_,fun _=>⟨rfl,o2,rfl⟩,h.block,h.got⟩,rfl⟩
  intro _
  simp only [beginWait,putShort,wt,patience,h.mode,h.side]
  rcases hm with hm | hm <;> rcases hi with rfl | rfl <;> simp [hm]
theorem blk_rel {c:Cfg} {now i:Nat} {s:Stn} {p:PS} {l:List UInt8} (h:Rel now i s l p) (hm:s.mode = 2):RelD c now i (sendBlk c now s) (beginWait c (putBlock c p),none):=by
 obtain ⟨o1,o2,o3⟩:=h.own (Or.inr hm)
 refine ⟨⟨h.side,h.q,h.joined,h.busy,?_,h.mode,h.rest,?_,fun _=>⟨o1,o2,o3⟩,h.block,h.got⟩,rfl⟩
 ·simp only [beginWait,putBlock,sendBlk,message,h.q,h.block hm]
 ·intro _
  simp only [beginWait,putBlock,sendBlk,wt,h.mode,hm]
  simp
theorem bid_rel {c:Cfg} {now i:Nat} {s:Stn} {p:PS} {l:List UInt8} (h:Rel now i s l p) (hi:i = 0 ∨ i = 1):RelD c now i (bids c now i s) (bid c p,none):=by
 refine ⟨⟨h.side,h.q,h.joined,h.busy,rfl,rfl,h.rest,?_,fun _=>⟨rfl,rfl,rfl⟩,by simp [bids],by simp [bids]⟩,rfl⟩
 intro _
 simp only [bid,beginWait,putShort,bids,wt,patience,h.side]
 rcases hi with rfl | rfl <;> simp
theorem joinedM_snoc (l:List Bk) (b:Bk):joinedM (l ++ [b]) = ⟨(joinedM l).head ++ b.head,(joinedM l).text ++ b.parts.flatten,b.clear⟩:=by
 simp [joinedM]
theorem putYes_put (c:Cfg) {s:Stn} {p:PS} (hb:p.busy = s.busy) (hy:p.yes = yesN s.count):(putYes p).put = txOf c (tells s):=by
 unfold putYes tells
 rw [hb,hy]
 split <;> rfl
theorem putYes_eq (p:PS):putYes p = { p with put:=(putYes p).put }:=by unfold putYes; split <;> rfl
theorem takes_rel {c:Cfg} {now i:Nat} {s:Stn} {p:PS} {l:List UInt8} (b:Bk) (h:Rel now i s l p) (hm:s.mode = 3):RelD c now i (takes c now i s b) (receive b (beginWait c p)):=by
 obtain ⟨g1,g2,g3⟩:=h.got hm
 have hw:(beginWait c p).wait = now + c.lost - now:=by simp [beginWait,wt,h.mode,hm]
 unfold takes receive
 simp only [joinedM_snoc]
 have e1:(beginWait c p).head = (joinedM s.got).head:=g1
 have e2:(beginWait c p).text = (joinedM s.got).text:=g2
 rw [e1,e2]
 split
 ·exact ⟨⟨h.side,h.q,h.joined,h.busy,rfl,h.mode,h.rest,fun _=>hw,by simp [hm],by simp [hm],fun _=>⟨g1,g2,g3⟩⟩,rfl⟩
 ·have hy:otherYes (beginWait c p).yes = yesN (s.count + 1):=by
   have:(beginWait c p).yes = yesN s.count:=g3
   rw [this,yesN_other]
  split
  ·refine ⟨⟨?_,?_,?_,?_,?_,?_,?_,?_,by simp [hm],by simp [hm],fun _=>⟨rfl,rfl,?_⟩⟩,?_⟩
   ·simp only; rw [putYes_eq]; exact h.side
   ·simp only; rw [putYes_eq]; exact h.q
   ·simp only; rw [putYes_eq]; exact h.joined
   ·simp only; rw [putYes_eq]; exact h.busy
   ·exact putYes_put c (s:={ s with count:=s.count + 1 }) h.busy hy
   ·simp only; rw [putYes_eq]; exact h.mode
   ·simp only; rw [putYes_eq]; exact h.rest
   ·intro _; simp only; rw [putYes_eq]; exact hw
   ·simp only; rw [putYes_eq]; exact hy
   ·rw [show (beginWait c p).side = i from h.side]
  ·refine ⟨⟨?_,?_,?_,?_,?_,?_,?_,?_,by simp [hm],by simp [hm],fun _=>⟨?_,?_,?_⟩⟩,rfl⟩
   ·simp only; rw [putYes_eq]; exact h.side
   ·simp only; rw [putYes_eq]; exact h.q
   ·simp only; rw [putYes_eq]; exact h.joined
   ·simp only; rw [putYes_eq]; exact h.busy
   ·exact putYes_put c (s:={ s with count:=s.count + 1 }) h.busy hy
   ·simp only; rw [putYes_eq]; exact h.mode
   ·simp only; rw [putYes_eq]; exact h.rest
   ·intro _; simp only; rw [putYes_eq]; exact hw
   ·simp only; rw [putYes_eq,joinedM_snoc]
   ·simp only; rw [putYes_eq,joinedM_snoc]
   ·simp only; rw [putYes_eq]; exact hy
theorem rel_less {now i:Nat} {s:Stn} {p:PS} {l:List UInt8} (h:Rel now i s l p):Rel (now + 1) i s l (less p):=by
 refine ⟨h.side,h.q,h.joined,h.busy,h.put,h.mode,?_,?_,h.own,h.block,h.got⟩
 ·simp only [less,h.rest]; omega
 ·intro hm; simp only [less,h.wait hm]; omega
/-- What the program's station does in a tick is what the document's does. -/
theorem act_rel {c:Cfg} {now i:Nat} {s:Stn} {p:PS} {q:Put} (h:Ans) (hr:Rel now i s [] p) (hs:StOk c now i s q) (hi:i = 0 ∨ i = 1):RelD c (now + 1) i (one c (now + 1) i s h) (act h c p):=by
 have hl:=rel_less hr
 have hp:(less p).put = []:=hr.put
 have same:RelD c (now + 1) i (s,.nil,none) (less p,none):=⟨⟨hl.side,hl.q,hl.joined,hl.busy,hp,hl.mode,hl.rest,hl.wait,hl.own,hl.block,hl.got⟩,rfl⟩
 have hw0:s.mode ≠ 0 → ((less p).wait = 0 ↔ now + 1 = s.due):=by
  intro hm
  rw [hl.wait hm]
  have m:=hs.mode
  have h1:now < s.due:=by
   rcases (show s.mode = 1 ∨ s.mode = 2 ∨ s.mode = 3 by omega) with k | k | k
   ·exact (hs.bid k).1
   ·exact (hs.snd k).1
   ·exact (hs.rcv k).1
  omega
 have hm3:=hs.mode
 unfold one act named
 rw [hr.mode]
 rcases (show s.mode = 0 ∨ s.mode = 1 ∨ s.mode = 2 ∨ s.mode = 3 by omega) with hm | hm | hm | hm
 ·simp only [hm,if_neg (show ¬ (0:Nat) = 1 by decide),if_neg (show ¬ (0:Nat) = 2 by decide),if_neg (show ¬ (0:Nat) = 3 by decide)]
  unfold idle actIdle
  by_cases hk:kindOf h = 3
  ·simp only [hk,if_true]
   exact answer_rel hl
  ·simp only [hk,if_false]
   rw [hl.q,hl.rest]
   by_cases hb:s.queue ≠ [] ∧ s.rest ≤ now + 1
   ·have hb':s.queue ≠ [] ∧ s.rest - (now + 1) = 0:=⟨hb.1,by omega⟩
    simp only [ne_eq,not_true_eq_false,false_and,if_false,true_and]
    rw [if_pos hb,if_pos hb']
    exact bid_rel hl hi
   ·have hb':¬ (s.queue ≠ [] ∧ s.rest - (now + 1) = 0):=fun x=>hb ⟨x.1,by omega⟩
    simp only [ne_eq,not_true_eq_false,false_and,if_false,true_and]
    rw [if_neg hb,if_neg hb']
    exact same
 ·have hw:=hw0 (by omega)
  simp only [hm,if_true]
  unfold bidding actBidding
  by_cases k7:kindOf h = 7
  ·simp only [k7,if_true]
   have h':Rel (now + 1) i { s with mode:=2,block:=0,tries:=1,off:=0,free:=false } [] { less p with mode:=2,tries:=1,off:=0,free:=false,block:=0 } :=
    ⟨hl.side,hl.q,hl.joined,hl.busy,hl.put,rfl,hl.rest,fun _=>hl.wait (by omega),fun _=>⟨rfl,rfl,rfl⟩,fun _=>rfl,by simp⟩
   exact blk_rel h' rfl
  ·simp only [k7,if_false]
   by_cases k9:kindOf h = 9
   ·simp only [k9,if_true]
    exact later_rel hl hp (Or.inl hm) hi
   ·simp only [k9,if_false]
    rw [hl.side]
    by_cases k3:kindOf h = 3 ∧ i = 1
    ·simp only [k3,and_self,if_true]
     have:=answer_rel (c:=c) hl
     rw [k3.2] at this
     exact this
    ·rw [if_neg k3,if_neg k3]
     by_cases hd:now + 1 = s.due
     ·rw [if_pos (hw.2 hd)]
      simp only [ne_eq]
      rw [if_pos ⟨by decide,hd⟩]
      exact try_rel 3 hl hp (Or.inl hm) hi (by simp [hm])
     ·rw [if_neg (fun x=>hd (hw.1 x))]
      simp only [ne_eq]
      rw [if_neg (fun x=>hd x.2),if_neg (by simp)]
      exact same
 ·have hw:=hw0 (by omega)
  simp only [hm,if_neg (show ¬ (2:Nat) = 1 by decide),if_true]
  unfold sending actSending
  have hb2:(less p).block = s.block:=hl.block hm
  rw [hb2,yesN_exp]
  by_cases ky:kindOf h = yesN (s.block + 1)
  ·simp only [ky,if_true]
   unfold sendNext
   have hlast:(blkAt c (message (less p)) (less p).block).last = decide (s.block + 1 = nblk c (s.queue.headD noMsg)):=by
    rw [hb2]; simp only [message,hl.q]; rfl
   rw [hlast]
   by_cases hn:s.block + 1 = nblk c (s.queue.headD noMsg)
   ·simp only [hn,decide_true,if_true]
    exact finish_rel 2 hl hp
   ·simp only [hn,decide_false,if_false,Bool.false_eq_true]
    have h':Rel (now + 1) i { s with block:=s.block + 1,tries:=1,off:=0,free:=false } [] { less p with mode:=2,tries:=1,off:=0,free:=false,block:=s.block + 1 } :=
     ⟨hl.side,hl.q,hl.joined,hl.busy,hl.put,hm.symm,hl.rest,fun _=>hl.wait (by omega),fun _=>⟨rfl,rfl,rfl⟩,fun _=>rfl,by simp [hm]⟩
    rw [hb2]
    exact blk_rel h' hm
  ·simp only [ky,if_false]
   by_cases k6:kindOf h = 7 ∨ kindOf h = 8 ∨ kindOf h = 6
   ·simp only [k6,if_true]
    obtain ⟨o1,o2,o3⟩:=hl.own (Or.inr hm)
    unfold sendAgain
    rw [o1]
    by_cases ht:s.tries > c.tries
    ·simp only [ht,if_true]
     exact finish_rel 3 hl hp
    ·simp only [ht,if_false]
     have h':Rel (now + 1) i { s with tries:=s.tries + 1,free:=false } [] { less p with tries:=s.tries + 1,free:=false } :=
      ⟨hl.side,hl.q,hl.joined,hl.busy,hl.put,hl.mode,hl.rest,hl.wait,fun _=>⟨rfl,o2,rfl⟩,hl.block,hl.got⟩
     exact blk_rel h' hm
   ·simp only [k6,if_false]
    by_cases k9:kindOf h = 9
    ·simp only [k9,if_true]
     exact later_rel hl hp (Or.inr hm) hi
    ·simp only [k9,if_false]
     by_cases hd:now + 1 = s.due
     ·rw [if_pos (hw.2 hd)]
      simp only [ne_eq]
      rw [if_pos ⟨by decide,hd⟩]
      exact try_rel 4 hl hp (Or.inr hm) hi (by simp [hm])
     ·rw [if_neg (fun x=>hd (hw.1 x))]
      simp only [ne_eq]
      rw [if_neg (fun x=>hd x.2),if_neg (by simp)]
      exact same
 ·have hw:=hw0 (by omega)
  simp only [hm,if_neg (show ¬ (3:Nat) = 1 by decide),if_neg (show ¬ (3:Nat) = 2 by decide),if_true]
  obtain ⟨g1,g2,g3⟩:=hl.got hm
  have hwt:wt c (less p) = now + 1 + c.lost - (now + 1):=by simp [wt,hl.mode,hm]
  have idl:RelD c (now + 1) i ({ s with mode:=0,got:=[] },.nil,none) (becomeIdle (less p),none):=⟨⟨hl.side,hl.q,hl.joined,hl.busy,hp,rfl,hl.rest,by simp,by simp,by simp,by simp⟩,rfl⟩
  unfold receiving actReceiving
  cases h with
  | data hd ps cl la=>exact takes_rel _ hl hm
  | none n =>
   simp only
   by_cases n1:n = 1
   ·simp only [n1,if_true]
    exact ⟨⟨hl.side,hl.q,hl.joined,hl.busy,rfl,hl.mode,hl.rest,fun _=>hwt,by simp [hm],by simp [hm],fun _=>⟨g1,g2,g3⟩⟩,rfl⟩
   ·simp only [n1,if_false]
    by_cases n4:n = 4
    ·simp only [n4,if_true]
     refine ⟨⟨?_,?_,?_,?_,?_,?_,?_,fun _=>?_,by simp [hm],by simp [hm],fun _=>⟨?_,?_,?_⟩⟩,rfl⟩
     ·rw [putYes_eq]; exact hl.side
     ·rw [putYes_eq]; exact hl.q
     ·rw [putYes_eq]; exact hl.joined
     ·rw [putYes_eq]; exact hl.busy
     ·exact putYes_put c hl.busy g3
     ·rw [putYes_eq]; exact hl.mode
     ·rw [putYes_eq]; exact hl.rest
     ·rw [putYes_eq]; exact hwt
     ·rw [putYes_eq]; exact g1
     ·rw [putYes_eq]; exact g2
     ·rw [putYes_eq]; exact g3
    ·simp only [n4,if_false]
     by_cases n3:n = 3
     ·simp only [n3,if_true]
      exact answer_rel hl
     ·simp only [n3,if_false]
      by_cases n5:n = 5
      ·simp only [n5,if_true,true_or]
       exact idl
      ·simp only [n5,if_false,false_or]
       by_cases hd:now + 1 = s.due
       ·rw [if_pos (hw.2 hd)]
        simp only [ne_eq]
        rw [if_pos ⟨by decide,hd⟩]
        unfold over
        rw [if_pos hm]
        exact idl
       ·rw [if_neg (fun x=>hd (hw.1 x))]
        simp only [ne_eq]
        rw [if_neg (fun x=>hd x.2),if_neg (by simp)]
        exact same
end Go.Proofs.YtlbpjcphhocdkaaGreat.Pst
namespace Go.Proofs.YtlbpjcphhocdkaaGreat
open Go.RowKit Go.Proofs.YtlbpjcphhocdkaaGreat.Mod Go.Proofs.YtlbpjcphhocdkaaGreat.Pst
/-- All is as it was but for the blocks of F; new ones may have come. -/
structure Fr (F:Nat → Prop) (w w':World):Prop where
 os:w'.os = w.os
 tape:w'.tape = w.tape
 output:w'.output = w.output
 size:w.heap.size ≤ w'.heap.size
 block:∀ k,k < w.heap.size → ¬ F k → w'.heap[k]? = w.heap[k]?
theorem Fr.refl (F:Nat → Prop) (w:World):Fr F w w:=⟨rfl,rfl,rfl,Nat.le_refl _,fun _ _ _=>rfl⟩
theorem Fr.trans {F G:Nat → Prop} {a b c:World} (h:Fr F a b) (k:Fr G b c) (hG:∀ g,g < a.heap.size → G g → F g):Fr F a c :=
 ⟨k.os.trans h.os,k.tape.trans h.tape,k.output.trans h.output,Nat.le_trans h.size k.size,fun i hi hn=>(k.block i (Nat.lt_of_lt_of_le hi h.size) (fun x=>hn (hG i hi x))).trans (h.block i hi hn)⟩
theorem Fr.mono {F G:Nat → Prop} {a b:World} (h:Fr F a b) (hG:∀ g,F g → G g):Fr G a b:=⟨h.os,h.tape,h.output,h.size,fun i hi hn=>h.block i hi (fun x=>hn (hG i x))⟩
theorem Fr.of_below {F:Nat → Prop} {a b:World} (h:Below a.heap.size a b):Fr F a b:=⟨h.os,h.tape,h.output,h.size,fun i hi _=>h.block i hi⟩
/-- The blocks of F,and all new ones. -/
def Plus (F:Nat → Prop) (w:World):Nat → Prop:=fun g=>F g ∨ w.heap.size ≤ g
/-- All is as it was but for the fifteen cells from ⟨b,o⟩ on; new blocks may have come. -/
structure Bes (b o:Nat) (w w':World):Prop where
 os:w'.os = w.os
 tape:w'.tape = w.tape
 output:w'.output = w.output
 size:w.heap.size ≤ w'.heap.size
 block:∀ k,k < w.heap.size → k ≠ b → w'.heap[k]? = w.heap[k]?
 cell:∀ j,j < o ∨ o + 15 ≤ j → w'.cell? ⟨b,j,none⟩ = w.cell? ⟨b,j,none⟩
 froz:∀ j,w'.frozen? ⟨b,j,none⟩ = w.frozen? ⟨b,j,none⟩
section
variable {b o:Nat} {u w w':World}
theorem Bes.refl (b o:Nat) (w:World):Bes b o w w:=⟨rfl,rfl,rfl,Nat.le_refl _,fun _ _ _=>rfl,fun _ _=>rfl,fun _=>rfl⟩
theorem Bes.trans (h:Bes b o u w) (k:Bes b o w w'):Bes b o u w' :=
 ⟨k.os.trans h.os,k.tape.trans h.tape,k.output.trans h.output,Nat.le_trans h.size k.size,fun i hi hn=>(k.block i (Nat.lt_of_lt_of_le hi h.size) hn).trans (h.block i hi hn),fun j hj=>(k.cell j hj).trans (h.cell j hj),fun j=>(k.froz j).trans (h.froz j)⟩
theorem Bes.set (h:Bes b o u w) (k:Nat) (hk:k < 15) (v:Value):Bes b o u (w.setCell ⟨b,o + k,none⟩ v) :=
 h.trans ⟨rfl,rfl,rfl,by simp,fun i _ hn=>Below.heap_setCell _ _ _ _ hn,fun j hj=>World.cell?_setCell_other _ _ _ _ (by simp only [ne_eq,Addr.mk.injEq,not_and]; omega),fun j=>by simp⟩
theorem Bes.set0 (h:Bes b o u w) (v:Value):Bes b o u (w.setCell ⟨b,o,none⟩ v):=h.set 0 (by omega) v
theorem Bes.below (h:Bes b o u w) (hb:b < w.heap.size) (k:Below w.heap.size w w'):Bes b o u w' :=
 h.trans ⟨k.os,k.tape,k.output,k.size,fun i hi _=>k.block i hi,fun _ _=>k.cell hb,fun _=>k.frozen hb⟩
theorem Bes.alloc (h:Bes b o u w) (hb:b < w.heap.size) (x:Obj):Bes b o u (w.alloc x):=h.below hb ((Below.refl _ _).alloc (Nat.le_refl _) x)
theorem Bes.drew (h:Bes b o u w):Bes b o u w.drew:=⟨h.os,h.tape,h.output,h.size,h.block,h.cell,h.froz⟩
theorem Bes.fr (h:Bes b o u w):Fr (fun g=>g = b) u w:=⟨h.os,h.tape,h.output,h.size,h.block⟩
end
/-- A message's cells. -/
def msgCells (m:Msg):List Value:=[.string ⟨m.head.toArray⟩,.string ⟨m.text.toArray⟩,.bool m.clear]
def mcells (l:List Msg):List Value:=(l.map msgCells).flatten
theorem mcells_append (l r:List Msg):mcells (l ++ r) = mcells l ++ mcells r:=by simp [mcells]
theorem mcells_cons (m:Msg) (l:List Msg):mcells (m::l) = msgCells m ++ mcells l:=by simp [mcells]
theorem mcells_get (l:List Msg) (i k:Nat) (hk:k < 3) (hi:i < l.length):(mcells l)[i * 3 + k]? = (msgCells (l.getD i noMsg))[k]?:=by
 induction l generalizing i with
 | nil=>simp at hi
 | cons m l ih =>
  rw [mcells_cons]
  cases i with
  | zero=>rw [List.getElem?_append_left (by simp [msgCells]; omega)]; simp
  | succ i =>
   rw [List.getElem?_append_right (by simp [msgCells]; omega)]
   simp only [msgCells,List.length_cons,List.length_nil]
   rw [show (i + 1) * 3 + k - (0 + 1 + 1 + 1) = i * 3 + k by omega,ih i (by simpa using hi)]
   simp [msgCells]
/-- The slice value v,its block one of F,holds just these messages. -/
def QAt (w:World) (F:Nat → Prop) (v:Value) (l:List Msg):Prop:=w.ownsRow 0 60 3 v l.length (mcells l) ∧ ∀ g,v.ownBlock = some g → F g
theorem QAt.keep {w w':World} {F:Nat → Prop} {v:Value} {l:List Msg} (h:QAt w F v l) (hb:∀ g,F g → g < w.heap.size → w'.heap[g]? = w.heap[g]?):QAt w' F v l:=by
 obtain ⟨⟨h1,h2⟩,hF⟩:=h
 refine ⟨⟨h1,?_⟩,hF⟩
 rcases h2 with h2 | ⟨g,cap,cur,hv,hB,hh,r⟩
 ·exact Or.inl h2
 ·exact Or.inr ⟨g,cap,cur,hv,hB,(hb g (hF g (by rw [hv]; rfl)) (lt_of_block hh)).trans hh,r⟩
theorem QAt.mono {w:World} {F G:Nat → Prop} {v:Value} {l:List Msg} (h:QAt w F v l) (hG:∀ g,F g → G g):QAt w G v l:=⟨h.1,fun g hg=>hG g (h.2 g hg)⟩
theorem QAt.lt {w:World} {F:Nat → Prop} {v:Value} {l:List Msg} (h:QAt w F v l):∀ g,v.ownBlock = some g → g < w.heap.size:=fun g hg=>(World.ownsRow.lt h.1 g hg).2
theorem QAt.form {w:World} {F:Nat → Prop} {v:Value} {l:List Msg} (h:QAt w F v l):∃ a cap,v = .slice a l.length cap:=by
 rcases h.1.2 with ⟨rfl,h0⟩ | ⟨g,cap,cur,rfl,_⟩
 ·exact ⟨none,0,by rw [h0]⟩
 ·exact ⟨_,cap,rfl⟩
theorem QAt.nil (w:World) (F:Nat → Prop):QAt w F (.slice none 0 0) []:=⟨World.ownsRow_nil w 0 _ _,fun g hg=>by cases hg⟩
/-- The cells from ⟨b,o⟩ on are a station's. -/
structure StAt (w:World) (F:Nat → Prop) (b o:Nat) (s:PS):Prop where
 side:w.cell? ⟨b,o,none⟩ = some (.int .i64 s.side)
 que:∃ v,w.cell? ⟨b,o + 1,none⟩ = some v ∧ QAt w F v s.q
 joined:w.cell? ⟨b,o + 2,none⟩ = some (.int .i64 s.joined)
 busy:w.cell? ⟨b,o + 3,none⟩ = some (.bool s.busy)
 put:w.cell? ⟨b,o + 4,none⟩ = some (.string ⟨s.put.toArray⟩)
 mode:w.cell? ⟨b,o + 5,none⟩ = some (.int .i64 s.mode)
 wait:w.cell? ⟨b,o + 6,none⟩ = some (.int .i64 s.wait)
 rest:w.cell? ⟨b,o + 7,none⟩ = some (.int .i64 s.rest)
 tries:w.cell? ⟨b,o + 8,none⟩ = some (.int .i64 s.tries)
 off:w.cell? ⟨b,o + 9,none⟩ = some (.int .i64 s.off)
 free:w.cell? ⟨b,o + 10,none⟩ = some (.bool s.free)
 block:w.cell? ⟨b,o + 11,none⟩ = some (.int .i64 s.block)
 head:w.cell? ⟨b,o + 12,none⟩ = some (.string ⟨s.head.toArray⟩)
 text:w.cell? ⟨b,o + 13,none⟩ = some (.string ⟨s.text.toArray⟩)
 yes:w.cell? ⟨b,o + 14,none⟩ = some (.int .i64 s.yes)
 fz:∀ j,w.frozen? ⟨b,j,none⟩ = false
 nb:¬ F b
section
variable {w w':World} {F:Nat → Prop} {b o:Nat} {s:PS}
theorem StAt.lt (h:StAt w F b o s):b < w.heap.size:=World.block_lt_of_cell? w _ h.side
/-- Where the block holds the same cells and the queue is as it was. -/
theorem StAt.keep (h:StAt w F b o s) (hc:∀ k,k < 15 → w'.cell? ⟨b,o + k,none⟩ = w.cell? ⟨b,o + k,none⟩) (hz:∀ j,w'.frozen? ⟨b,j,none⟩ = w.frozen? ⟨b,j,none⟩) (hb:∀ g,F g → g < w.heap.size → w'.heap[g]? = w.heap[g]?):StAt w' F b o s:=by
 obtain ⟨v,hv,hq⟩:=h.que
 exact ⟨(hc 0 (by omega)).trans h.side,⟨v,(hc 1 (by omega)).trans hv,hq.keep hb⟩,(hc 2 (by omega)).trans h.joined,(hc 3 (by omega)).trans h.busy,(hc 4 (by omega)).trans h.put,(hc 5 (by omega)).trans h.mode,(hc 6 (by omega)).trans h.wait,
  (hc 7 (by omega)).trans h.rest,(hc 8 (by omega)).trans h.tries,(hc 9 (by omega)).trans h.off,(hc 10 (by omega)).trans h.free,(hc 11 (by omega)).trans h.block,(hc 12 (by omega)).trans h.head,(hc 13 (by omega)).trans h.text,(hc 14 (by omega)).trans h.yes,fun j=>(hz j).trans (h.fz j),h.nb⟩
theorem StAt.below (h:StAt w F b o s) (k:Below w.heap.size w w'):StAt w' F b o s :=
 h.keep (fun _ _=>k.cell h.lt) (fun _=>k.frozen h.lt) (fun g _ hg=>k.block g hg)
theorem StAt.alloc (h:StAt w F b o s) (x:Obj):StAt (w.alloc x) F b o s:=h.below ((Below.refl _ _).alloc (Nat.le_refl _) x)
theorem StAt.drew (h:StAt w F b o s):StAt w.drew F b o s:=⟨h.side,h.que,h.joined,h.busy,h.put,h.mode,h.wait,h.rest,h.tries,h.off,h.free,h.block,h.head,h.text,h.yes,h.fz,h.nb⟩
theorem StAt.mono {G:Nat → Prop} (h:StAt w F b o s) (hG:∀ g,F g → G g) (hn:¬ G b):StAt w G b o s:=by
 obtain ⟨v,hv,hq⟩:=h.que
 exact ⟨h.side,⟨v,hv,hq.mono hG⟩,h.joined,h.busy,h.put,h.mode,h.wait,h.rest,h.tries,h.off,h.free,h.block,h.head,h.text,h.yes,h.fz,hn⟩
/-- One cell of the station set: the others are as they were. -/
theorem cell_set (k j:Nat) (v:Value) (h:k ≠ j):(w.setCell ⟨b,o + k,none⟩ v).cell? ⟨b,o + j,none⟩ = w.cell? ⟨b,o + j,none⟩:=World.cell?_setCell_other _ _ _ _ (by simp only [ne_eq,Addr.mk.injEq,not_and]; omega)
theorem cell_set0 (k:Nat) (v:Value) (h:k ≠ 0):(w.setCell ⟨b,o + k,none⟩ v).cell? ⟨b,o,none⟩ = w.cell? ⟨b,o,none⟩:=World.cell?_setCell_other _ _ _ _ (by simp only [ne_eq,Addr.mk.injEq,not_and]; omega)
theorem QAt.set (hn:¬ F b) {q:Value} {l:List Msg} (h:QAt w F q l) (k:Nat) (v:Value):QAt (w.setCell ⟨b,k,none⟩ v) F q l:=h.keep fun g hg _=>Below.heap_setCell _ _ _ _ (fun e=>hn (by subst e; exact hg))
theorem que_set (h:StAt w F b o s) (k:Nat) (v:Value) (hk:k ≠ 1):∃ q,(w.setCell ⟨b,o + k,none⟩ v).cell? ⟨b,o + 1,none⟩ = some q ∧ QAt (w.setCell ⟨b,o + k,none⟩ v) F q s.q:=by
 obtain ⟨q,hv,hq⟩:=h.que
 exact ⟨q,(cell_set k 1 v hk).trans hv,hq.set h.nb _ _⟩
theorem StAt.joined' (h:StAt w F b o s) (x:Nat):StAt (w.setCell ⟨b,o + 2,none⟩ (.int .i64 x)) F b o { s with joined:=x } :=
 ⟨(cell_set0 2 _ (by omega)).trans h.side,que_set h 2 _ (by omega),World.cell?_setCell_same _ _ _ h.joined,(cell_set 2 3 _ (by omega)).trans h.busy,(cell_set 2 4 _ (by omega)).trans h.put,(cell_set 2 5 _ (by omega)).trans h.mode,(cell_set 2 6 _ (by omega)).trans h.wait,(cell_set 2 7 _ (by omega)).trans h.rest,(cell_set 2 8 _ (by omega)).trans h.tries,(cell_set 2 9 _ (by omega)).trans h.off,(cell_set 2 10 _ (by omega)).trans h.free,(cell_set 2 11 _ (by omega)).trans h.block,(cell_set 2 12 _ (by omega)).trans h.head,(cell_set 2 13 _ (by omega)).trans h.text,(cell_set 2 14 _ (by omega)).trans h.yes,fun j=>by rw [World.frozen?_setCell]; exact h.fz j,h.nb⟩
theorem StAt.busy' (h:StAt w F b o s) (x:Bool):StAt (w.setCell ⟨b,o + 3,none⟩ (.bool x)) F b o { s with busy:=x } :=
 ⟨(cell_set0 3 _ (by omega)).trans h.side,que_set h 3 _ (by omega),(cell_set 3 2 _ (by omega)).trans h.joined,World.cell?_setCell_same _ _ _ h.busy,(cell_set 3 4 _ (by omega)).trans h.put,(cell_set 3 5 _ (by omega)).trans h.mode,(cell_set 3 6 _ (by omega)).trans h.wait,(cell_set 3 7 _ (by omega)).trans h.rest,(cell_set 3 8 _ (by omega)).trans h.tries,(cell_set 3 9 _ (by omega)).trans h.off,(cell_set 3 10 _ (by omega)).trans h.free,(cell_set 3 11 _ (by omega)).trans h.block,(cell_set 3 12 _ (by omega)).trans h.head,(cell_set 3 13 _ (by omega)).trans h.text,(cell_set 3 14 _ (by omega)).trans h.yes,fun j=>by rw [World.frozen?_setCell]; exact h.fz j,h.nb⟩
theorem StAt.put' (h:StAt w F b o s) (x:List UInt8):StAt (w.setCell ⟨b,o + 4,none⟩ (.string ⟨x.toArray⟩)) F b o { s with put:=x } :=
 ⟨(cell_set0 4 _ (by omega)).trans h.side,que_set h 4 _ (by omega),(cell_set 4 2 _ (by omega)).trans h.joined,(cell_set 4 3 _ (by omega)).trans h.busy,World.cell?_setCell_same _ _ _ h.put,(cell_set 4 5 _ (by omega)).trans h.mode,(cell_set 4 6 _ (by omega)).trans h.wait,(cell_set 4 7 _ (by omega)).trans h.rest,(cell_set 4 8 _ (by omega)).trans h.tries,(cell_set 4 9 _ (by omega)).trans h.off,(cell_set 4 10 _ (by omega)).trans h.free,(cell_set 4 11 _ (by omega)).trans h.block,(cell_set 4 12 _ (by omega)).trans h.head,(cell_set 4 13 _ (by omega)).trans h.text,(cell_set 4 14 _ (by omega)).trans h.yes,fun j=>by rw [World.frozen?_setCell]; exact h.fz j,h.nb⟩
theorem StAt.mode' (h:StAt w F b o s) (x:Nat):StAt (w.setCell ⟨b,o + 5,none⟩ (.int .i64 x)) F b o { s with mode:=x } :=
 ⟨(cell_set0 5 _ (by omega)).trans h.side,que_set h 5 _ (by omega),(cell_set 5 2 _ (by omega)).trans h.joined,(cell_set 5 3 _ (by omega)).trans h.busy,(cell_set 5 4 _ (by omega)).trans h.put,World.cell?_setCell_same _ _ _ h.mode,(cell_set 5 6 _ (by omega)).trans h.wait,(cell_set 5 7 _ (by omega)).trans h.rest,(cell_set 5 8 _ (by omega)).trans h.tries,(cell_set 5 9 _ (by omega)).trans h.off,(cell_set 5 10 _ (by omega)).trans h.free,(cell_set 5 11 _ (by omega)).trans h.block,(cell_set 5 12 _ (by omega)).trans h.head,(cell_set 5 13 _ (by omega)).trans h.text,(cell_set 5 14 _ (by omega)).trans h.yes,fun j=>by rw [World.frozen?_setCell]; exact h.fz j,h.nb⟩
theorem StAt.wait' (h:StAt w F b o s) (x:Nat):StAt (w.setCell ⟨b,o + 6,none⟩ (.int .i64 x)) F b o { s with wait:=x } :=
 ⟨(cell_set0 6 _ (by omega)).trans h.side,que_set h 6 _ (by omega),(cell_set 6 2 _ (by omega)).trans h.joined,(cell_set 6 3 _ (by omega)).trans h.busy,(cell_set 6 4 _ (by omega)).trans h.put,(cell_set 6 5 _ (by omega)).trans h.mode,World.cell?_setCell_same _ _ _ h.wait,(cell_set 6 7 _ (by omega)).trans h.rest,(cell_set 6 8 _ (by omega)).trans h.tries,(cell_set 6 9 _ (by omega)).trans h.off,(cell_set 6 10 _ (by omega)).trans h.free,(cell_set 6 11 _ (by omega)).trans h.block,(cell_set 6 12 _ (by omega)).trans h.head,(cell_set 6 13 _ (by omega)).trans h.text,(cell_set 6 14 _ (by omega)).trans h.yes,fun j=>by rw [World.frozen?_setCell]; exact h.fz j,h.nb⟩
theorem StAt.rest' (h:StAt w F b o s) (x:Nat):StAt (w.setCell ⟨b,o + 7,none⟩ (.int .i64 x)) F b o { s with rest:=x } :=
 ⟨(cell_set0 7 _ (by omega)).trans h.side,que_set h 7 _ (by omega),(cell_set 7 2 _ (by omega)).trans h.joined,(cell_set 7 3 _ (by omega)).trans h.busy,(cell_set 7 4 _ (by omega)).trans h.put,(cell_set 7 5 _ (by omega)).trans h.mode,(cell_set 7 6 _ (by omega)).trans h.wait,World.cell?_setCell_same _ _ _ h.rest,(cell_set 7 8 _ (by omega)).trans h.tries,(cell_set 7 9 _ (by omega)).trans h.off,(cell_set 7 10 _ (by omega)).trans h.free,(cell_set 7 11 _ (by omega)).trans h.block,(cell_set 7 12 _ (by omega)).trans h.head,(cell_set 7 13 _ (by omega)).trans h.text,(cell_set 7 14 _ (by omega)).trans h.yes,fun j=>by rw [World.frozen?_setCell]; exact h.fz j,h.nb⟩
theorem StAt.tries' (h:StAt w F b o s) (x:Nat):StAt (w.setCell ⟨b,o + 8,none⟩ (.int .i64 x)) F b o { s with tries:=x } :=
 ⟨(cell_set0 8 _ (by omega)).trans h.side,que_set h 8 _ (by omega),(cell_set 8 2 _ (by omega)).trans h.joined,(cell_set 8 3 _ (by omega)).trans h.busy,(cell_set 8 4 _ (by omega)).trans h.put,(cell_set 8 5 _ (by omega)).trans h.mode,(cell_set 8 6 _ (by omega)).trans h.wait,(cell_set 8 7 _ (by omega)).trans h.rest,World.cell?_setCell_same _ _ _ h.tries,(cell_set 8 9 _ (by omega)).trans h.off,(cell_set 8 10 _ (by omega)).trans h.free,(cell_set 8 11 _ (by omega)).trans h.block,(cell_set 8 12 _ (by omega)).trans h.head,(cell_set 8 13 _ (by omega)).trans h.text,(cell_set 8 14 _ (by omega)).trans h.yes,fun j=>by rw [World.frozen?_setCell]; exact h.fz j,h.nb⟩
theorem StAt.off' (h:StAt w F b o s) (x:Nat):StAt (w.setCell ⟨b,o + 9,none⟩ (.int .i64 x)) F b o { s with off:=x } :=
 ⟨(cell_set0 9 _ (by omega)).trans h.side,que_set h 9 _ (by omega),(cell_set 9 2 _ (by omega)).trans h.joined,(cell_set 9 3 _ (by omega)).trans h.busy,(cell_set 9 4 _ (by omega)).trans h.put,(cell_set 9 5 _ (by omega)).trans h.mode,(cell_set 9 6 _ (by omega)).trans h.wait,(cell_set 9 7 _ (by omega)).trans h.rest,(cell_set 9 8 _ (by omega)).trans h.tries,World.cell?_setCell_same _ _ _ h.off,(cell_set 9 10 _ (by omega)).trans h.free,(cell_set 9 11 _ (by omega)).trans h.block,(cell_set 9 12 _ (by omega)).trans h.head,(cell_set 9 13 _ (by omega)).trans h.text,(cell_set 9 14 _ (by omega)).trans h.yes,fun j=>by rw [World.frozen?_setCell]; exact h.fz j,h.nb⟩
theorem StAt.free' (h:StAt w F b o s) (x:Bool):StAt (w.setCell ⟨b,o + 10,none⟩ (.bool x)) F b o { s with free:=x } :=
 ⟨(cell_set0 10 _ (by omega)).trans h.side,que_set h 10 _ (by omega),(cell_set 10 2 _ (by omega)).trans h.joined,(cell_set 10 3 _ (by omega)).trans h.busy,(cell_set 10 4 _ (by omega)).trans h.put,(cell_set 10 5 _ (by omega)).trans h.mode,(cell_set 10 6 _ (by omega)).trans h.wait,(cell_set 10 7 _ (by omega)).trans h.rest,(cell_set 10 8 _ (by omega)).trans h.tries,(cell_set 10 9 _ (by omega)).trans h.off,World.cell?_setCell_same _ _ _ h.free,(cell_set 10 11 _ (by omega)).trans h.block,(cell_set 10 12 _ (by omega)).trans h.head,(cell_set 10 13 _ (by omega)).trans h.text,(cell_set 10 14 _ (by omega)).trans h.yes,fun j=>by rw [World.frozen?_setCell]; exact h.fz j,h.nb⟩
theorem StAt.block' (h:StAt w F b o s) (x:Nat):StAt (w.setCell ⟨b,o + 11,none⟩ (.int .i64 x)) F b o { s with block:=x } :=
 ⟨(cell_set0 11 _ (by omega)).trans h.side,que_set h 11 _ (by omega),(cell_set 11 2 _ (by omega)).trans h.joined,(cell_set 11 3 _ (by omega)).trans h.busy,(cell_set 11 4 _ (by omega)).trans h.put,(cell_set 11 5 _ (by omega)).trans h.mode,(cell_set 11 6 _ (by omega)).trans h.wait,(cell_set 11 7 _ (by omega)).trans h.rest,(cell_set 11 8 _ (by omega)).trans h.tries,(cell_set 11 9 _ (by omega)).trans h.off,(cell_set 11 10 _ (by omega)).trans h.free,World.cell?_setCell_same _ _ _ h.block,(cell_set 11 12 _ (by omega)).trans h.head,(cell_set 11 13 _ (by omega)).trans h.text,(cell_set 11 14 _ (by omega)).trans h.yes,fun j=>by rw [World.frozen?_setCell]; exact h.fz j,h.nb⟩
theorem StAt.head' (h:StAt w F b o s) (x:List UInt8):StAt (w.setCell ⟨b,o + 12,none⟩ (.string ⟨x.toArray⟩)) F b o { s with head:=x } :=
 ⟨(cell_set0 12 _ (by omega)).trans h.side,que_set h 12 _ (by omega),(cell_set 12 2 _ (by omega)).trans h.joined,(cell_set 12 3 _ (by omega)).trans h.busy,(cell_set 12 4 _ (by omega)).trans h.put,(cell_set 12 5 _ (by omega)).trans h.mode,(cell_set 12 6 _ (by omega)).trans h.wait,(cell_set 12 7 _ (by omega)).trans h.rest,(cell_set 12 8 _ (by omega)).trans h.tries,(cell_set 12 9 _ (by omega)).trans h.off,(cell_set 12 10 _ (by omega)).trans h.free,(cell_set 12 11 _ (by omega)).trans h.block,World.cell?_setCell_same _ _ _ h.head,(cell_set 12 13 _ (by omega)).trans h.text,(cell_set 12 14 _ (by omega)).trans h.yes,fun j=>by rw [World.frozen?_setCell]; exact h.fz j,h.nb⟩
theorem StAt.text' (h:StAt w F b o s) (x:List UInt8):StAt (w.setCell ⟨b,o + 13,none⟩ (.string ⟨x.toArray⟩)) F b o { s with text:=x } :=
 ⟨(cell_set0 13 _ (by omega)).trans h.side,que_set h 13 _ (by omega),(cell_set 13 2 _ (by omega)).trans h.joined,(cell_set 13 3 _ (by omega)).trans h.busy,(cell_set 13 4 _ (by omega)).trans h.put,(cell_set 13 5 _ (by omega)).trans h.mode,(cell_set 13 6 _ (by omega)).trans h.wait,(cell_set 13 7 _ (by omega)).trans h.rest,(cell_set 13 8 _ (by omega)).trans h.tries,(cell_set 13 9 _ (by omega)).trans h.off,(cell_set 13 10 _ (by omega)).trans h.free,(cell_set 13 11 _ (by omega)).trans h.block,(cell_set 13 12 _ (by omega)).trans h.head,World.cell?_setCell_same _ _ _ h.text,(cell_set 13 14 _ (by omega)).trans h.yes,fun j=>by rw [World.frozen?_setCell]; exact h.fz j,h.nb⟩
theorem StAt.yes' (h:StAt w F b o s) (x:Nat):StAt (w.setCell ⟨b,o + 14,none⟩ (.int .i64 x)) F b o { s with yes:=x } :=
 ⟨(cell_set0 14 _ (by omega)).trans h.side,que_set h 14 _ (by omega),(cell_set 14 2 _ (by omega)).trans h.joined,(cell_set 14 3 _ (by omega)).trans h.busy,(cell_set 14 4 _ (by omega)).trans h.put,(cell_set 14 5 _ (by omega)).trans h.mode,(cell_set 14 6 _ (by omega)).trans h.wait,(cell_set 14 7 _ (by omega)).trans h.rest,(cell_set 14 8 _ (by omega)).trans h.tries,(cell_set 14 9 _ (by omega)).trans h.off,(cell_set 14 10 _ (by omega)).trans h.free,(cell_set 14 11 _ (by omega)).trans h.block,(cell_set 14 12 _ (by omega)).trans h.head,(cell_set 14 13 _ (by omega)).trans h.text,World.cell?_setCell_same _ _ _ h.yes,fun j=>by rw [World.frozen?_setCell]; exact h.fz j,h.nb⟩
end
/-- The station's new queue. -/
theorem StAt.que' {w:World} {F G:Nat → Prop} {b o:Nat} {s:PS} (h:StAt w F b o s) (v:Value) (l:List Msg) (hq:QAt w G v l) (hn:¬ G b):StAt (w.setCell ⟨b,o + 1,none⟩ v) G b o { s with q:=l }:=by
 obtain ⟨q,hv,_⟩:=h.que
 exact ⟨(cell_set0 1 _ (by omega)).trans h.side,⟨v,World.cell?_setCell_same _ _ _ hv,hq.set hn _ _⟩,(cell_set 1 2 _ (by omega)).trans h.joined,(cell_set 1 3 _ (by omega)).trans h.busy,(cell_set 1 4 _ (by omega)).trans h.put,(cell_set 1 5 _ (by omega)).trans h.mode,(cell_set 1 6 _ (by omega)).trans h.wait,(cell_set 1 7 _ (by omega)).trans h.rest,(cell_set 1 8 _ (by omega)).trans h.tries,(cell_set 1 9 _ (by omega)).trans h.off,(cell_set 1 10 _ (by omega)).trans h.free,(cell_set 1 11 _ (by omega)).trans h.block,(cell_set 1 12 _ (by omega)).trans h.head,(cell_set 1 13 _ (by omega)).trans h.text,(cell_set 1 14 _ (by omega)).trans h.yes,fun j=>by rw [World.frozen?_setCell]; exact h.fz j,hn⟩
/-- A configuration as a value; in memory. -/
def cfgV (c:Cfg):Value:=.agg #[.int .i64 c.check,.int .i64 c.size,.int .i64 c.parts,.int .i64 c.queue,.int .i64 c.first,.int .i64 c.second,.int .i64 c.reply,.int .i64 c.lost,.int .i64 c.tries,.int .i64 c.waits]
def cfgCells (c:Cfg):Array Value:=#[.int .i64 c.check,.int .i64 c.size,.int .i64 c.parts,.int .i64 c.queue,.int .i64 c.first,.int .i64 c.second,.int .i64 c.reply,.int .i64 c.lost,.int .i64 c.tries,.int .i64 c.waits]
def CfgAt (w:World) (g:Nat) (c:Cfg):Prop:=w.heap[g]? = some (.cells (cfgCells c) 26 (0,0))
theorem CfgAt.new (w:World) (c:Cfg):CfgAt (w.alloc (.cells (cfgCells c) 26)) w.heap.size c:=heap_alloc_new w _
theorem CfgAt.lt {w:World} {g:Nat} {c:Cfg} (h:CfgAt w g c):g < w.heap.size:=lt_of_block h
theorem CfgAt.below {w w':World} {g:Nat} {c:Cfg} (h:CfgAt w g c) (k:Below w.heap.size w w'):CfgAt w' g c:=(k.block g h.lt).trans h
theorem CfgAt.bes {w w':World} {g b o:Nat} {c:Cfg} (h:CfgAt w g c) (k:Bes b o w w') (hb:b ≠ g):CfgAt w' g c:=(k.block g h.lt hb.symm).trans h
theorem CfgAt.cell {w:World} {g:Nat} {c:Cfg} (h:CfgAt w g c) (i:Nat) (_hi:i < 10):w.cell? ⟨g,i,none⟩ = (cfgCells c)[i]?:=by
 unfold CfgAt at h
 simp [World.cell?,h]
/-- All ten,as a walk wants them. -/
theorem CfgAt.all {w:World} {g:Nat} {c:Cfg} (h:CfgAt w g c) :
  w.cell? ⟨g,0,none⟩ = some (.int .i64 c.check) ∧ w.cell? ⟨g,1,none⟩ = some (.int .i64 c.size) ∧ w.cell? ⟨g,2,none⟩ = some (.int .i64 c.parts) ∧ w.cell? ⟨g,3,none⟩ = some (.int .i64 c.queue) ∧ w.cell? ⟨g,4,none⟩ = some (.int .i64 c.first) ∧
  w.cell? ⟨g,5,none⟩ = some (.int .i64 c.second) ∧ w.cell? ⟨g,6,none⟩ = some (.int .i64 c.reply) ∧ w.cell? ⟨g,7,none⟩ = some (.int .i64 c.lost) ∧ w.cell? ⟨g,8,none⟩ = some (.int .i64 c.tries) ∧ w.cell? ⟨g,9,none⟩ = some (.int .i64 c.waits) :=
 ⟨h.cell 0 (by omega),h.cell 1 (by omega),h.cell 2 (by omega),h.cell 3 (by omega),h.cell 4 (by omega),h.cell 5 (by omega),h.cell 6 (by omega),h.cell 7 (by omega),h.cell 8 (by omega),h.cell 9 (by omega)⟩
/-- The line's configuration,in its first ten cells. -/
def CfgL (W:World) (b:Nat) (c:Cfg):Prop :=
 W.cell? ⟨b,0,none⟩ = some (.int .i64 c.check) ∧ W.cell? ⟨b,1,none⟩ = some (.int .i64 c.size) ∧ W.cell? ⟨b,2,none⟩ = some (.int .i64 c.parts) ∧ W.cell? ⟨b,3,none⟩ = some (.int .i64 c.queue) ∧ W.cell? ⟨b,4,none⟩ = some (.int .i64 c.first) ∧
  W.cell? ⟨b,5,none⟩ = some (.int .i64 c.second) ∧ W.cell? ⟨b,6,none⟩ = some (.int .i64 c.reply) ∧ W.cell? ⟨b,7,none⟩ = some (.int .i64 c.lost) ∧ W.cell? ⟨b,8,none⟩ = some (.int .i64 c.tries) ∧ W.cell? ⟨b,9,none⟩ = some (.int .i64 c.waits)
theorem CfgL.keep {W W':World} {b:Nat} {c:Cfg} (h:CfgL W b c) (k:∀ i,i < 10 → W'.cell? ⟨b,i,none⟩ = W.cell? ⟨b,i,none⟩):CfgL W' b c:=by
 obtain ⟨h0,h1,h2,h3,h4,h5,h6,h7,h8,h9⟩:=h
 exact ⟨(k 0 (by omega)).trans h0,(k 1 (by omega)).trans h1,(k 2 (by omega)).trans h2,(k 3 (by omega)).trans h3,(k 4 (by omega)).trans h4,(k 5 (by omega)).trans h5,(k 6 (by omega)).trans h6,(k 7 (by omega)).trans h7,(k 8 (by omega)).trans h8,(k 9 (by omega)).trans h9⟩
/-- A line: its block,its two queues; all its blocks are of F. -/
structure LnAt (w:World) (F:Nat → Prop) (b:Nat) (c:Cfg) (p0 p1:PS):Prop where
 sts:∃ F0 F1:Nat → Prop,StAt w F0 b 10 p0 ∧ StAt w F1 b 25 p1 ∧ (∀ g,F0 g → F g ∧ g < w.heap.size) ∧ (∀ g,F1 g → F g ∧ g < w.heap.size) ∧ (∀ g,F0 g → ¬ F1 g)
 cfg:CfgL w b c
 own:F b
section
variable {w w':World} {F G:Nat → Prop} {b o:Nat} {s:PS} {c:Cfg} {p0 p1:PS}
/-- The other station. -/
theorem StAt.beside {o2:Nat} (h:StAt w F b o2 s) (k:Bes b o w w') (ho:o2 + 15 ≤ o ∨ o + 15 ≤ o2):StAt w' F b o2 s :=
 h.keep (fun i hi=>k.cell (o2 + i) (by omega)) k.froz (fun g hg hl=>k.block g hl (fun e=>h.nb (by rw [← e]; exact hg)))
theorem CfgL.bes (h:CfgL w b c) (k:Bes b o w w') (ho:10 ≤ o):CfgL w' b c:=h.keep fun i hi=>k.cell i (by omega)
theorem CfgL.below (h:CfgL w b c) (k:Below w.heap.size w w') (hb:b < w.heap.size):CfgL w' b c:=h.keep fun _ _=>k.cell hb
theorem StAt.bound (h:StAt w F b o s):StAt w (fun g=>F g ∧ g < w.heap.size) b o s:=by
 obtain ⟨v,hv,hq⟩:=h.que
 exact ⟨h.side,⟨v,hv,hq.1,fun g hg=>⟨hq.2 g hg,hq.lt g hg⟩⟩,h.joined,h.busy,h.put,h.mode,h.wait,h.rest,h.tries,h.off,h.free,h.block,h.head,h.text,h.yes,h.fz,fun x=>h.nb x.1⟩
theorem LnAt.lt (h:LnAt w F b c p0 p1):b < w.heap.size:=by obtain ⟨F0,F1,h0,_⟩:=h.sts; exact h0.lt
theorem LnAt.mono (h:LnAt w F b c p0 p1) (k:∀ g,F g → G g):LnAt w G b c p0 p1:=by
 obtain ⟨F0,F1,h0,h1,a,d,e⟩:=h.sts
 exact ⟨⟨F0,F1,h0,h1,fun g hg=>⟨k g (a g hg).1,(a g hg).2⟩,fun g hg=>⟨k g (d g hg).1,(d g hg).2⟩,e⟩,h.cfg,k b h.own⟩
/-- What leaves the line's blocks alone leaves the line alone. -/
theorem LnAt.keep (h:LnAt w F b c p0 p1) (hs:w.heap.size ≤ w'.heap.size) (hk:∀ g,F g → g < w.heap.size → w'.heap[g]? = w.heap[g]?):LnAt w' F b c p0 p1:=by
 obtain ⟨F0,F1,h0,h1,a,d,e⟩:=h.sts
 have hb:=hk b h.own h.lt
 have hc:∀ j,w'.cell? ⟨b,j,none⟩ = w.cell? ⟨b,j,none⟩:=fun j=>World.cell?_of_block hb
 have hz:∀ j,w'.frozen? ⟨b,j,none⟩ = w.frozen? ⟨b,j,none⟩:=fun j=>World.frozen?_of_block hb
 exact ⟨⟨F0,F1,h0.keep (fun _ _=>hc _) hz (fun g hg hl=>hk g (a g hg).1 hl),h1.keep (fun _ _=>hc _) hz (fun g hg hl=>hk g (d g hg).1 hl),fun g hg=>⟨(a g hg).1,Nat.lt_of_lt_of_le (a g hg).2 hs⟩,fun g hg=>⟨(d g hg).1,Nat.lt_of_lt_of_le (d g hg).2 hs⟩,e⟩,h.cfg.keep fun _ _=>hc _,h.own⟩
end
/-- The blocks that are new. -/
def New (w:World):Nat → Prop:=fun g=>w.heap.size ≤ g
def msgV (m:Msg):Value:=.agg #[.string ⟨m.head.toArray⟩,.string ⟨m.text.toArray⟩,.bool m.clear]
theorem Below.allocN {w W:World} (h:Below w.heap.size w W) (x:Obj):Below w.heap.size w (W.alloc x):=h.alloc h.size x
theorem isStation_any (n:Int) (w:World) :
  Calls Tryz.prog 57 #[.int .i64 n] w fun e w'=>e = .returned (.bool (decide (n = 0 ∨ n = 1))) ∧ w' = w:=by
 by_cases h:n = 0
 ·subst h
  go_enter Tryz.func57,Tryz.ntmps57
  go_wp2
  go_ret
  exact ⟨rfl,rfl⟩
 ·by_cases h1:n = 1
  ·subst h1
   go_enter Tryz.func57,Tryz.ntmps57
   go_wp2
   go_ret
   exact ⟨rfl,rfl⟩
  ·have HE:Hid (decide (n = 0 ∨ n = 1) = false):=by simp [Hid,h,h1]
   rw [HE.out]
   go_enter Tryz.func57,Tryz.ntmps57
   go_wp2
   go_ret
   exact ⟨by show Ending.returned (Value.bool (n == 0 || n == 1)) = _; simp [h,h1],rfl⟩
end Go.Proofs.YtlbpjcphhocdkaaGreat
namespace Go.Proofs.YtlbpjcphhocdkaaGreat
open Go.RowKit
theorem refShort_any (k:Int) (w:World) :
  Calls Tryz.prog 22 #[.int .i64 k] w fun e w'=>e = .returned (.tuple #[.string ⟨(shortS k).toArray⟩,.int .i64 (shortE k)]) ∧ Below w.heap.size w w':=by
 rcases (show k < 3 ∨ 9 < k ∨ k = 3 ∨ k = 4 ∨ k = 5 ∨ k = 6 ∨ k = 7 ∨ k = 8 ∨ k = 9 from by omega) with h | h | rfl | rfl | rfl | rfl | rfl | rfl | rfl
 ·have hb:sbody k = []:=by unfold sbody; repeat' (rw [if_neg (by omega)])
  have e1:shortS k = []:=by simp [shortS,hb]
  have e2:shortE k = 5:=by simp [shortE,hb]
  rw [e1,e2]; clear hb e1 e2
  go_enter Tryz.func22,Tryz.ntmps22
  go_wp2
  go_ret2
  exact ⟨rfl,Below.refl _ _⟩
 ·have hb:sbody k = []:=by unfold sbody; repeat' (rw [if_neg (by omega)])
  have e1:shortS k = []:=by simp [shortS,hb]
  have e2:shortE k = 5:=by simp [shortE,hb]
  rw [e1,e2]; clear hb e1 e2
  go_enter Tryz.func22,Tryz.ntmps22
  go_wp2
  go_ret2
  exact ⟨rfl,Below.refl _ _⟩
 all_goals
  go_enter Tryz.func22,Tryz.ntmps22
  go_wp2
  go_ret2
  exact ⟨rfl,(Below.refl _ _).alloc (Nat.le_refl _) _⟩
end Go.Proofs.YtlbpjcphhocdkaaGreat
namespace Go.Proofs.YtlbpjcphhocdkaaGreat
open Go.RowKit Go.Proofs.YtlbpjcphhocdkaaGreat.Mod Go.Proofs.YtlbpjcphhocdkaaGreat.Pst
/-- A station as the document's program keeps it. -/
structure RS where
 mode:Nat
 busy:Bool
 q:List Msg
 joined:Nat
 began:Nat
 wait:Nat
 ended:Int
 tries:Nat
 off:Nat
 free:Bool
 block:Nat
 count:Nat
 got:List Bk
/-- A list of blocks in memory: the blocks of memory that it and its texts lie in are of F. -/
def GAt (w:World) (F:Nat → Prop) (v:Value) (l:List Bk):Prop :=
 ∃ vs:List (Value × List ByteArray),vs.length = l.length ∧ w.ownsRow 0 57 4 v l.length ((vs.zip l).map fun x=>[.string ⟨x.2.head.toArray⟩,x.1.1,.bool x.2.clear,.bool x.2.last]).flatten ∧ (∀ g,v.ownBlock = some g → F g) ∧
  ∀ k (hk:k < l.length),∃ x,vs[k]? = some x ∧ w.ownsRow 0 9 1 x.1 x.2.length (x.2.map Value.string) ∧ (∀ g,x.1.ownBlock = some g → F g) ∧ datas x.2 = l[k].parts
theorem row_keep {w w':World} {e:TypeId} {z:Nat} {v:Value} {n:Nat} {xs:List Value} (h:w.ownsRow 0 e z v n xs) (hb:∀ g,v.ownBlock = some g → g < w.heap.size → w'.heap[g]? = w.heap[g]?):w'.ownsRow 0 e z v n xs:=by
 obtain ⟨h1,h2⟩:=h
 refine ⟨h1,?_⟩
 rcases h2 with h2 | ⟨g,cap,cur,hv,hB,hh,r⟩
 ·exact Or.inl h2
 ·exact Or.inr ⟨g,cap,cur,hv,hB,(hb g (by rw [hv]; rfl) (lt_of_block hh)).trans hh,r⟩
theorem GAt.keep {w w':World} {F:Nat → Prop} {v:Value} {l:List Bk} (h:GAt w F v l) (hb:∀ g,F g → g < w.heap.size → w'.heap[g]? = w.heap[g]?):GAt w' F v l:=by
 obtain ⟨vs,h0,h1,h2,h3⟩:=h
 refine ⟨vs,h0,row_keep h1 (fun g hg hl=>hb g (h2 g hg) hl),h2,fun k hk=>?_⟩
 obtain ⟨x,hx,hr,hf,hd⟩:=h3 k hk
 exact ⟨x,hx,row_keep hr (fun g hg hl=>hb g (hf g hg) hl),hf,hd⟩
theorem GAt.mono {w:World} {F G:Nat → Prop} {v:Value} {l:List Bk} (h:GAt w F v l) (hG:∀ g,F g → G g):GAt w G v l:=by
 obtain ⟨vs,h0,h1,h2,h3⟩:=h
 refine ⟨vs,h0,h1,fun g hg=>hG g (h2 g hg),fun k hk=>?_⟩
 obtain ⟨x,hx,hr,hf,hd⟩:=h3 k hk
 exact ⟨x,hx,hr,fun g hg=>hG g (hf g hg),hd⟩
theorem GAt.nil (w:World) (F:Nat → Prop):GAt w F (.slice none 0 0) []:=⟨[],rfl,World.ownsRow_nil w 0 _ _,fun g hg=>(by cases hg),fun k hk=>absurd hk (Nat.not_lt_zero k)⟩
/-- The line's block yb,its list of stations sl,what is on the line ob,the station's own block sb. -/
structure RAd where
 yb:Nat
 sl:Nat
 ob:Nat
 sb:Nat
 i:Nat
structure RAd.Ok (A:RAd) (F:Nat → Prop):Prop where
 i:A.i < 2
 h1:A.yb ≠ A.sl
 h2:A.yb ≠ A.ob
 h3:A.yb ≠ A.sb
 h4:A.sl ≠ A.ob
 h5:A.sl ≠ A.sb
 h6:A.ob ≠ A.sb
 f1:¬ F A.yb
 f2:¬ F A.sl
 f3:¬ F A.ob
 f4:¬ F A.sb
/-- The line as one station sees it. -/
structure RAt (w:World) (F:Nat → Prop) (A:RAd) (c:Cfg) (now:Nat) (s:RS) (on:List UInt8):Prop where
 cfg:CfgL w A.yb c
 now:w.cell? ⟨A.yb,10,none⟩ = some (.int .i64 now)
 lst:w.cell? ⟨A.yb,11,none⟩ = some (.slice (some ⟨A.sl,0,none⟩) 2 2)
 onl:w.cell? ⟨A.yb,12,none⟩ = some (.slice (some ⟨A.ob,0,none⟩) 2 2)
 ptr:w.cell? ⟨A.sl,A.i,none⟩ = some (.pointer (some ⟨A.sb,0,none⟩))
 on:w.cell? ⟨A.ob,A.i,none⟩ = some (.string ⟨on.toArray⟩)
 mode:w.cell? ⟨A.sb,0,none⟩ = some (.int .i64 s.mode)
 busy:w.cell? ⟨A.sb,1,none⟩ = some (.bool s.busy)
 que:∃ v,w.cell? ⟨A.sb,2,none⟩ = some v ∧ QAt w F v s.q
 joined:w.cell? ⟨A.sb,3,none⟩ = some (.int .i64 s.joined)
 began:w.cell? ⟨A.sb,4,none⟩ = some (.int .i64 s.began)
 wait:w.cell? ⟨A.sb,5,none⟩ = some (.int .i64 s.wait)
 ended:w.cell? ⟨A.sb,6,none⟩ = some (.int .i64 s.ended)
 tries:w.cell? ⟨A.sb,7,none⟩ = some (.int .i64 s.tries)
 off:w.cell? ⟨A.sb,8,none⟩ = some (.int .i64 s.off)
 free:w.cell? ⟨A.sb,9,none⟩ = some (.bool s.free)
 block:w.cell? ⟨A.sb,10,none⟩ = some (.int .i64 s.block)
 count:w.cell? ⟨A.sb,11,none⟩ = some (.int .i64 s.count)
 got:∃ v,w.cell? ⟨A.sb,12,none⟩ = some v ∧ GAt w F v s.got
 zob:∀ j,w.frozen? ⟨A.ob,j,none⟩ = false
 zsb:∀ j,w.frozen? ⟨A.sb,j,none⟩ = false
 ok:A.Ok F
/-- All is as it was but for the station's block and its cell on the line; new blocks may have come. -/
structure RB (A:RAd) (w w':World):Prop where
 os:w'.os = w.os
 tape:w'.tape = w.tape
 output:w'.output = w.output
 size:w.heap.size ≤ w'.heap.size
 block:∀ k,k < w.heap.size → k ≠ A.sb → k ≠ A.ob → w'.heap[k]? = w.heap[k]?
 cell:∀ j,j ≠ A.i → w'.cell? ⟨A.ob,j,none⟩ = w.cell? ⟨A.ob,j,none⟩
 zob:∀ j,w'.frozen? ⟨A.ob,j,none⟩ = w.frozen? ⟨A.ob,j,none⟩
 zsb:∀ j,w'.frozen? ⟨A.sb,j,none⟩ = w.frozen? ⟨A.sb,j,none⟩
section
variable {A:RAd} {u w w':World} {F:Nat → Prop} {c:Cfg} {now:Nat} {s:RS} {on:List UInt8}
theorem RB.refl (A:RAd) (w:World):RB A w w:=⟨rfl,rfl,rfl,Nat.le_refl _,fun _ _ _ _=>rfl,fun _ _=>rfl,fun _=>rfl,fun _=>rfl⟩
theorem RB.trans (h:RB A u w) (k:RB A w w'):RB A u w':=⟨k.os.trans h.os,k.tape.trans h.tape,k.output.trans h.output,Nat.le_trans h.size k.size,fun i hi h1 h2=>(k.block i (Nat.lt_of_lt_of_le hi h.size) h1 h2).trans (h.block i hi h1 h2),fun j hj=>(k.cell j hj).trans (h.cell j hj),fun j=>(k.zob j).trans (h.zob j),fun j=>(k.zsb j).trans (h.zsb j)⟩
theorem RB.setS (h:RB A u w) (hne:A.ob ≠ A.sb) (k:Nat) (v:Value):RB A u (w.setCell ⟨A.sb,k,none⟩ v) :=
 h.trans ⟨rfl,rfl,rfl,by simp,fun i _ h1 _=>Below.heap_setCell _ _ _ _ h1,fun j _=>World.cell?_setCell_other _ _ _ _ (fun e=>hne (congrArg Addr.block e).symm),fun j=>by simp,fun j=>by simp⟩
theorem RB.setO (h:RB A u w) (v:Value):RB A u (w.setCell ⟨A.ob,A.i,none⟩ v) :=
 h.trans ⟨rfl,rfl,rfl,by simp,fun i _ _ h2=>Below.heap_setCell _ _ _ _ h2,fun j hj=>World.cell?_setCell_other _ _ _ _ (fun e=>hj (congrArg Addr.off e).symm),fun j=>by simp,fun j=>by simp⟩
theorem RB.below (h:RB A u w) (h1:A.ob < w.heap.size) (h2:A.sb < w.heap.size) (k:Below w.heap.size w w'):RB A u w' :=
 h.trans ⟨k.os,k.tape,k.output,k.size,fun i hi _ _=>k.block i hi,fun _ _=>k.cell h1,fun _=>k.frozen h1,fun _=>k.frozen h2⟩
theorem RB.drew (h:RB A u w):RB A u w.drew:=⟨h.os,h.tape,h.output,h.size,h.block,h.cell,h.zob,h.zsb⟩
theorem RAt.lob (h:RAt w F A c now s on):A.ob < w.heap.size:=World.block_lt_of_cell? w _ h.on
theorem RAt.lsb (h:RAt w F A c now s on):A.sb < w.heap.size:=World.block_lt_of_cell? w _ h.mode
theorem RAt.lsl (h:RAt w F A c now s on):A.sl < w.heap.size:=World.block_lt_of_cell? w _ h.ptr
theorem RAt.lyb (h:RAt w F A c now s on):A.yb < w.heap.size:=World.block_lt_of_cell? w _ h.now
/-- Where nothing of it has changed. -/
theorem RAt.below (h:RAt w F A c now s on) (k:Below w.heap.size w w'):RAt w' F A c now s on:=by
 obtain ⟨v,hv,hq⟩:=h.que
 obtain ⟨g,hg,hG⟩:=h.got
 have e:∀ (p:Addr) (x:Value),w.cell? p = some x → w'.cell? p = some x:=fun p x hp=>(k.cell (World.block_lt_of_cell? w p hp)).trans hp
 exact ⟨h.cfg.below k h.lyb,e _ _ h.now,e _ _ h.lst,e _ _ h.onl,e _ _ h.ptr,e _ _ h.on,e _ _ h.mode,e _ _ h.busy,⟨v,e _ _ hv,hq.keep fun g _ hg=>k.block g hg⟩,e _ _ h.joined,e _ _ h.began,e _ _ h.wait,e _ _ h.ended,e _ _ h.tries,e _ _ h.off,e _ _ h.free,e _ _ h.block,e _ _ h.count,⟨g,e _ _ hg,hG.keep fun g _ hg=>k.block g hg⟩,fun j=>(k.frozen h.lob).trans (h.zob j),fun j=>(k.frozen h.lsb).trans (h.zsb j),h.ok⟩
theorem RAt.drewN (h:RAt w F A c now s on) (n:Nat):RAt (w.drewN n) F A c now s on:=h.below (below_drewN (Below.refl _ _) n)
theorem RAt.drew (h:RAt w F A c now s on):RAt w.drew F A c now s on:=h.below (Below.drew (Below.refl _ _))
/-- A cell of another block is as it was. -/
theorem cell_ne {g b k j:Nat} {v:Value} (h:g ≠ b):(w.setCell ⟨g,k,none⟩ v).cell? ⟨b,j,none⟩ = w.cell? ⟨b,j,none⟩:=World.cell?_setCell_other _ _ _ _ (fun e=>h (congrArg Addr.block e))
theorem cell_nk {g k j:Nat} {v:Value} (h:k ≠ j):(w.setCell ⟨g,k,none⟩ v).cell? ⟨g,j,none⟩ = w.cell? ⟨g,j,none⟩:=World.cell?_setCell_other _ _ _ _ (fun e=>h (congrArg Addr.off e))
theorem QAt.setX {g k:Nat} {v q:Value} {l:List Msg} (h:QAt w F q l) (hn:¬ F g):QAt (w.setCell ⟨g,k,none⟩ v) F q l:=h.keep fun x hx _=>Below.heap_setCell _ _ _ _ (fun e=>hn (by subst e; exact hx))
theorem GAt.setX {g k:Nat} {v q:Value} {l:List Bk} (h:GAt w F q l) (hn:¬ F g):GAt (w.setCell ⟨g,k,none⟩ v) F q l:=h.keep fun x hx _=>Below.heap_setCell _ _ _ _ (fun e=>hn (by subst e; exact hx))
theorem CfgL.setX {g k b:Nat} {v:Value} (h:CfgL w b c) (hn:g ≠ b):CfgL (w.setCell ⟨g,k,none⟩ v) b c:=h.keep fun _ _=>cell_ne hn
theorem RAt.mode' (h:RAt w F A c now s on) (x:Nat):RAt (w.setCell ⟨A.sb,0,none⟩ (.int .i64 x)) F A c now { s with mode:=x } on:=by
 obtain ⟨_,hv,hq⟩:=h.que
 obtain ⟨_,hg,hG⟩:=h.got
 exact ⟨h.cfg.setX (Ne.symm h.ok.h3),(cell_ne (Ne.symm h.ok.h3)).trans h.now,(cell_ne (Ne.symm h.ok.h3)).trans h.lst,(cell_ne (Ne.symm h.ok.h3)).trans h.onl,(cell_ne (Ne.symm h.ok.h5)).trans h.ptr,(cell_ne (Ne.symm h.ok.h6)).trans h.on,World.cell?_setCell_same _ _ _ h.mode,(cell_nk (by omega)).trans h.busy,⟨_,(cell_nk (by omega)).trans hv,hq.setX h.ok.f4⟩,(cell_nk (by omega)).trans h.joined,(cell_nk (by omega)).trans h.began,(cell_nk (by omega)).trans h.wait,(cell_nk (by omega)).trans h.ended,(cell_nk (by omega)).trans h.tries,(cell_nk (by omega)).trans h.off,(cell_nk (by omega)).trans h.free,(cell_nk (by omega)).trans h.block,(cell_nk (by omega)).trans h.count,⟨_,(cell_nk (by omega)).trans hg,hG.setX h.ok.f4⟩,fun j=>by rw [World.frozen?_setCell]; exact h.zob j,fun j=>by rw [World.frozen?_setCell]; exact h.zsb j,h.ok⟩
theorem RAt.busy' (h:RAt w F A c now s on) (x:Bool):RAt (w.setCell ⟨A.sb,1,none⟩ (.bool x)) F A c now { s with busy:=x } on:=by
 obtain ⟨_,hv,hq⟩:=h.que
 obtain ⟨_,hg,hG⟩:=h.got
 exact ⟨h.cfg.setX (Ne.symm h.ok.h3),(cell_ne (Ne.symm h.ok.h3)).trans h.now,(cell_ne (Ne.symm h.ok.h3)).trans h.lst,(cell_ne (Ne.symm h.ok.h3)).trans h.onl,(cell_ne (Ne.symm h.ok.h5)).trans h.ptr,(cell_ne (Ne.symm h.ok.h6)).trans h.on,(cell_nk (by omega)).trans h.mode,World.cell?_setCell_same _ _ _ h.busy,⟨_,(cell_nk (by omega)).trans hv,hq.setX h.ok.f4⟩,(cell_nk (by omega)).trans h.joined,(cell_nk (by omega)).trans h.began,(cell_nk (by omega)).trans h.wait,(cell_nk (by omega)).trans h.ended,(cell_nk (by omega)).trans h.tries,(cell_nk (by omega)).trans h.off,(cell_nk (by omega)).trans h.free,(cell_nk (by omega)).trans h.block,(cell_nk (by omega)).trans h.count,⟨_,(cell_nk (by omega)).trans hg,hG.setX h.ok.f4⟩,fun j=>by rw [World.frozen?_setCell]; exact h.zob j,fun j=>by rw [World.frozen?_setCell]; exact h.zsb j,h.ok⟩
theorem RAt.joined' (h:RAt w F A c now s on) (x:Nat):RAt (w.setCell ⟨A.sb,3,none⟩ (.int .i64 x)) F A c now { s with joined:=x } on:=by
 obtain ⟨_,hv,hq⟩:=h.que
 obtain ⟨_,hg,hG⟩:=h.got
 exact ⟨h.cfg.setX (Ne.symm h.ok.h3),(cell_ne (Ne.symm h.ok.h3)).trans h.now,(cell_ne (Ne.symm h.ok.h3)).trans h.lst,(cell_ne (Ne.symm h.ok.h3)).trans h.onl,(cell_ne (Ne.symm h.ok.h5)).trans h.ptr,(cell_ne (Ne.symm h.ok.h6)).trans h.on,(cell_nk (by omega)).trans h.mode,(cell_nk (by omega)).trans h.busy,⟨_,(cell_nk (by omega)).trans hv,hq.setX h.ok.f4⟩,World.cell?_setCell_same _ _ _ h.joined,(cell_nk (by omega)).trans h.began,(cell_nk (by omega)).trans h.wait,(cell_nk (by omega)).trans h.ended,(cell_nk (by omega)).trans h.tries,(cell_nk (by omega)).trans h.off,(cell_nk (by omega)).trans h.free,(cell_nk (by omega)).trans h.block,(cell_nk (by omega)).trans h.count,⟨_,(cell_nk (by omega)).trans hg,hG.setX h.ok.f4⟩,fun j=>by rw [World.frozen?_setCell]; exact h.zob j,fun j=>by rw [World.frozen?_setCell]; exact h.zsb j,h.ok⟩
theorem RAt.began' (h:RAt w F A c now s on) (x:Nat):RAt (w.setCell ⟨A.sb,4,none⟩ (.int .i64 x)) F A c now { s with began:=x } on:=by
 obtain ⟨_,hv,hq⟩:=h.que
 obtain ⟨_,hg,hG⟩:=h.got
 exact ⟨h.cfg.setX (Ne.symm h.ok.h3),(cell_ne (Ne.symm h.ok.h3)).trans h.now,(cell_ne (Ne.symm h.ok.h3)).trans h.lst,(cell_ne (Ne.symm h.ok.h3)).trans h.onl,(cell_ne (Ne.symm h.ok.h5)).trans h.ptr,(cell_ne (Ne.symm h.ok.h6)).trans h.on,(cell_nk (by omega)).trans h.mode,(cell_nk (by omega)).trans h.busy,⟨_,(cell_nk (by omega)).trans hv,hq.setX h.ok.f4⟩,(cell_nk (by omega)).trans h.joined,World.cell?_setCell_same _ _ _ h.began,(cell_nk (by omega)).trans h.wait,(cell_nk (by omega)).trans h.ended,(cell_nk (by omega)).trans h.tries,(cell_nk (by omega)).trans h.off,(cell_nk (by omega)).trans h.free,(cell_nk (by omega)).trans h.block,(cell_nk (by omega)).trans h.count,⟨_,(cell_nk (by omega)).trans hg,hG.setX h.ok.f4⟩,fun j=>by rw [World.frozen?_setCell]; exact h.zob j,fun j=>by rw [World.frozen?_setCell]; exact h.zsb j,h.ok⟩
theorem RAt.wait' (h:RAt w F A c now s on) (x:Nat):RAt (w.setCell ⟨A.sb,5,none⟩ (.int .i64 x)) F A c now { s with wait:=x } on:=by
 obtain ⟨_,hv,hq⟩:=h.que
 obtain ⟨_,hg,hG⟩:=h.got
 exact ⟨h.cfg.setX (Ne.symm h.ok.h3),(cell_ne (Ne.symm h.ok.h3)).trans h.now,(cell_ne (Ne.symm h.ok.h3)).trans h.lst,(cell_ne (Ne.symm h.ok.h3)).trans h.onl,(cell_ne (Ne.symm h.ok.h5)).trans h.ptr,(cell_ne (Ne.symm h.ok.h6)).trans h.on,(cell_nk (by omega)).trans h.mode,(cell_nk (by omega)).trans h.busy,⟨_,(cell_nk (by omega)).trans hv,hq.setX h.ok.f4⟩,(cell_nk (by omega)).trans h.joined,(cell_nk (by omega)).trans h.began,World.cell?_setCell_same _ _ _ h.wait,(cell_nk (by omega)).trans h.ended,(cell_nk (by omega)).trans h.tries,(cell_nk (by omega)).trans h.off,(cell_nk (by omega)).trans h.free,(cell_nk (by omega)).trans h.block,(cell_nk (by omega)).trans h.count,⟨_,(cell_nk (by omega)).trans hg,hG.setX h.ok.f4⟩,fun j=>by rw [World.frozen?_setCell]; exact h.zob j,fun j=>by rw [World.frozen?_setCell]; exact h.zsb j,h.ok⟩
theorem RAt.ended' (h:RAt w F A c now s on) (x:Int):RAt (w.setCell ⟨A.sb,6,none⟩ (.int .i64 x)) F A c now { s with ended:=x } on:=by
 obtain ⟨_,hv,hq⟩:=h.que
 obtain ⟨_,hg,hG⟩:=h.got
 exact ⟨h.cfg.setX (Ne.symm h.ok.h3),(cell_ne (Ne.symm h.ok.h3)).trans h.now,(cell_ne (Ne.symm h.ok.h3)).trans h.lst,(cell_ne (Ne.symm h.ok.h3)).trans h.onl,(cell_ne (Ne.symm h.ok.h5)).trans h.ptr,(cell_ne (Ne.symm h.ok.h6)).trans h.on,(cell_nk (by omega)).trans h.mode,(cell_nk (by omega)).trans h.busy,⟨_,(cell_nk (by omega)).trans hv,hq.setX h.ok.f4⟩,(cell_nk (by omega)).trans h.joined,(cell_nk (by omega)).trans h.began,(cell_nk (by omega)).trans h.wait,World.cell?_setCell_same _ _ _ h.ended,(cell_nk (by omega)).trans h.tries,(cell_nk (by omega)).trans h.off,(cell_nk (by omega)).trans h.free,(cell_nk (by omega)).trans h.block,(cell_nk (by omega)).trans h.count,⟨_,(cell_nk (by omega)).trans hg,hG.setX h.ok.f4⟩,fun j=>by rw [World.frozen?_setCell]; exact h.zob j,fun j=>by rw [World.frozen?_setCell]; exact h.zsb j,h.ok⟩
theorem RAt.tries' (h:RAt w F A c now s on) (x:Nat):RAt (w.setCell ⟨A.sb,7,none⟩ (.int .i64 x)) F A c now { s with tries:=x } on:=by
 obtain ⟨_,hv,hq⟩:=h.que
 obtain ⟨_,hg,hG⟩:=h.got
 exact ⟨h.cfg.setX (Ne.symm h.ok.h3),(cell_ne (Ne.symm h.ok.h3)).trans h.now,(cell_ne (Ne.symm h.ok.h3)).trans h.lst,(cell_ne (Ne.symm h.ok.h3)).trans h.onl,(cell_ne (Ne.symm h.ok.h5)).trans h.ptr,(cell_ne (Ne.symm h.ok.h6)).trans h.on,(cell_nk (by omega)).trans h.mode,(cell_nk (by omega)).trans h.busy,⟨_,(cell_nk (by omega)).trans hv,hq.setX h.ok.f4⟩,(cell_nk (by omega)).trans h.joined,(cell_nk (by omega)).trans h.began,(cell_nk (by omega)).trans h.wait,(cell_nk (by omega)).trans h.ended,World.cell?_setCell_same _ _ _ h.tries,(cell_nk (by omega)).trans h.off,(cell_nk (by omega)).trans h.free,(cell_nk (by omega)).trans h.block,(cell_nk (by omega)).trans h.count,⟨_,(cell_nk (by omega)).trans hg,hG.setX h.ok.f4⟩,fun j=>by rw [World.frozen?_setCell]; exact h.zob j,fun j=>by rw [World.frozen?_setCell]; exact h.zsb j,h.ok⟩
theorem RAt.off' (h:RAt w F A c now s on) (x:Nat):RAt (w.setCell ⟨A.sb,8,none⟩ (.int .i64 x)) F A c now { s with off:=x } on:=by
 obtain ⟨_,hv,hq⟩:=h.que
 obtain ⟨_,hg,hG⟩:=h.got
 exact ⟨h.cfg.setX (Ne.symm h.ok.h3),(cell_ne (Ne.symm h.ok.h3)).trans h.now,(cell_ne (Ne.symm h.ok.h3)).trans h.lst,(cell_ne (Ne.symm h.ok.h3)).trans h.onl,(cell_ne (Ne.symm h.ok.h5)).trans h.ptr,(cell_ne (Ne.symm h.ok.h6)).trans h.on,(cell_nk (by omega)).trans h.mode,(cell_nk (by omega)).trans h.busy,⟨_,(cell_nk (by omega)).trans hv,hq.setX h.ok.f4⟩,(cell_nk (by omega)).trans h.joined,(cell_nk (by omega)).trans h.began,(cell_nk (by omega)).trans h.wait,(cell_nk (by omega)).trans h.ended,(cell_nk (by omega)).trans h.tries,World.cell?_setCell_same _ _ _ h.off,(cell_nk (by omega)).trans h.free,(cell_nk (by omega)).trans h.block,(cell_nk (by omega)).trans h.count,⟨_,(cell_nk (by omega)).trans hg,hG.setX h.ok.f4⟩,fun j=>by rw [World.frozen?_setCell]; exact h.zob j,fun j=>by rw [World.frozen?_setCell]; exact h.zsb j,h.ok⟩
theorem RAt.free' (h:RAt w F A c now s on) (x:Bool):RAt (w.setCell ⟨A.sb,9,none⟩ (.bool x)) F A c now { s with free:=x } on:=by
 obtain ⟨_,hv,hq⟩:=h.que
 obtain ⟨_,hg,hG⟩:=h.got
 exact ⟨h.cfg.setX (Ne.symm h.ok.h3),(cell_ne (Ne.symm h.ok.h3)).trans h.now,(cell_ne (Ne.symm h.ok.h3)).trans h.lst,(cell_ne (Ne.symm h.ok.h3)).trans h.onl,(cell_ne (Ne.symm h.ok.h5)).trans h.ptr,(cell_ne (Ne.symm h.ok.h6)).trans h.on,(cell_nk (by omega)).trans h.mode,(cell_nk (by omega)).trans h.busy,⟨_,(cell_nk (by omega)).trans hv,hq.setX h.ok.f4⟩,(cell_nk (by omega)).trans h.joined,(cell_nk (by omega)).trans h.began,(cell_nk (by omega)).trans h.wait,(cell_nk (by omega)).trans h.ended,(cell_nk (by omega)).trans h.tries,(cell_nk (by omega)).trans h.off,World.cell?_setCell_same _ _ _ h.free,(cell_nk (by omega)).trans h.block,(cell_nk (by omega)).trans h.count,⟨_,(cell_nk (by omega)).trans hg,hG.setX h.ok.f4⟩,fun j=>by rw [World.frozen?_setCell]; exact h.zob j,fun j=>by rw [World.frozen?_setCell]; exact h.zsb j,h.ok⟩
theorem RAt.block' (h:RAt w F A c now s on) (x:Nat):RAt (w.setCell ⟨A.sb,10,none⟩ (.int .i64 x)) F A c now { s with block:=x } on:=by
 obtain ⟨_,hv,hq⟩:=h.que
 obtain ⟨_,hg,hG⟩:=h.got
 exact ⟨h.cfg.setX (Ne.symm h.ok.h3),(cell_ne (Ne.symm h.ok.h3)).trans h.now,(cell_ne (Ne.symm h.ok.h3)).trans h.lst,(cell_ne (Ne.symm h.ok.h3)).trans h.onl,(cell_ne (Ne.symm h.ok.h5)).trans h.ptr,(cell_ne (Ne.symm h.ok.h6)).trans h.on,(cell_nk (by omega)).trans h.mode,(cell_nk (by omega)).trans h.busy,⟨_,(cell_nk (by omega)).trans hv,hq.setX h.ok.f4⟩,(cell_nk (by omega)).trans h.joined,(cell_nk (by omega)).trans h.began,(cell_nk (by omega)).trans h.wait,(cell_nk (by omega)).trans h.ended,(cell_nk (by omega)).trans h.tries,(cell_nk (by omega)).trans h.off,(cell_nk (by omega)).trans h.free,World.cell?_setCell_same _ _ _ h.block,(cell_nk (by omega)).trans h.count,⟨_,(cell_nk (by omega)).trans hg,hG.setX h.ok.f4⟩,fun j=>by rw [World.frozen?_setCell]; exact h.zob j,fun j=>by rw [World.frozen?_setCell]; exact h.zsb j,h.ok⟩
theorem RAt.count' (h:RAt w F A c now s on) (x:Nat):RAt (w.setCell ⟨A.sb,11,none⟩ (.int .i64 x)) F A c now { s with count:=x } on:=by
 obtain ⟨_,hv,hq⟩:=h.que
 obtain ⟨_,hg,hG⟩:=h.got
 exact ⟨h.cfg.setX (Ne.symm h.ok.h3),(cell_ne (Ne.symm h.ok.h3)).trans h.now,(cell_ne (Ne.symm h.ok.h3)).trans h.lst,(cell_ne (Ne.symm h.ok.h3)).trans h.onl,(cell_ne (Ne.symm h.ok.h5)).trans h.ptr,(cell_ne (Ne.symm h.ok.h6)).trans h.on,(cell_nk (by omega)).trans h.mode,(cell_nk (by omega)).trans h.busy,⟨_,(cell_nk (by omega)).trans hv,hq.setX h.ok.f4⟩,(cell_nk (by omega)).trans h.joined,(cell_nk (by omega)).trans h.began,(cell_nk (by omega)).trans h.wait,(cell_nk (by omega)).trans h.ended,(cell_nk (by omega)).trans h.tries,(cell_nk (by omega)).trans h.off,(cell_nk (by omega)).trans h.free,(cell_nk (by omega)).trans h.block,World.cell?_setCell_same _ _ _ h.count,⟨_,(cell_nk (by omega)).trans hg,hG.setX h.ok.f4⟩,fun j=>by rw [World.frozen?_setCell]; exact h.zob j,fun j=>by rw [World.frozen?_setCell]; exact h.zsb j,h.ok⟩
theorem RAt.on' (h:RAt w F A c now s on) (x:List UInt8):RAt (w.setCell ⟨A.ob,A.i,none⟩ (.string ⟨x.toArray⟩)) F A c now s x:=by
 obtain ⟨_,hv,hq⟩:=h.que
 obtain ⟨_,hg,hG⟩:=h.got
 exact ⟨h.cfg.setX (Ne.symm h.ok.h2),(cell_ne (Ne.symm h.ok.h2)).trans h.now,(cell_ne (Ne.symm h.ok.h2)).trans h.lst,(cell_ne (Ne.symm h.ok.h2)).trans h.onl,(cell_ne (Ne.symm h.ok.h4)).trans h.ptr,World.cell?_setCell_same _ _ _ h.on,(cell_ne h.ok.h6).trans h.mode,(cell_ne h.ok.h6).trans h.busy,⟨_,(cell_ne h.ok.h6).trans hv,hq.setX h.ok.f3⟩,(cell_ne h.ok.h6).trans h.joined,(cell_ne h.ok.h6).trans h.began,(cell_ne h.ok.h6).trans h.wait,(cell_ne h.ok.h6).trans h.ended,(cell_ne h.ok.h6).trans h.tries,(cell_ne h.ok.h6).trans h.off,(cell_ne h.ok.h6).trans h.free,(cell_ne h.ok.h6).trans h.block,(cell_ne h.ok.h6).trans h.count,⟨_,(cell_ne h.ok.h6).trans hg,hG.setX h.ok.f3⟩,fun j=>by rw [World.frozen?_setCell]; exact h.zob j,fun j=>by rw [World.frozen?_setCell]; exact h.zsb j,h.ok⟩
end
theorem isWithin_any (n lo hi:Int) (w:World) :
  Calls Tryz.prog 83 #[.int .i64 n,.int .i64 lo,.int .i64 hi] w fun e w'=>e = .returned (.bool (decide (lo ≤ n ∧ n ≤ hi))) ∧ w' = w:=by
 by_cases h1:lo ≤ n
 ·by_cases h2:n ≤ hi
  ·have HR:Hid (decide (lo ≤ n ∧ n ≤ hi) = true):=by simp [Hid,h1,h2]
   rw [HR.out]
   go_enter Tryz.func83,Tryz.ntmps83
   go_wp2
   go_ret
   exact ⟨rfl,rfl⟩
  ·have HR:Hid (decide (lo ≤ n ∧ n ≤ hi) = false):=by simp [Hid,h1,h2]
   rw [HR.out]
   go_enter Tryz.func83,Tryz.ntmps83
   go_wp2
   go_ret
   exact ⟨rfl,rfl⟩
 ·have HR:Hid (decide (lo ≤ n ∧ n ≤ hi) = false):=by simp [Hid,h1]
  rw [HR.out]
  go_enter Tryz.func83,Tryz.ntmps83
  go_wp2
  go_ret
  exact ⟨rfl,rfl⟩
theorem areCounts_any (c0 c1 c2 c3 c4 c5 c6 c7 c8 c9:Int) (w:World) :
  Calls Tryz.prog 55 #[.agg #[.int .i64 c0,.int .i64 c1,.int .i64 c2,.int .i64 c3,.int .i64 c4,.int .i64 c5,.int .i64 c6,.int .i64 c7,.int .i64 c8,.int .i64 c9]] w fun e w'=>e = .returned (.bool (decide (1 ≤ c3 ∧ c3 ≤ 8) && decide (1 ≤ c8 ∧ c8 ≤ 7) && decide (0 ≤ c9 ∧ c9 ≤ 7))) ∧ Below w.heap.size w w':=by
 have hW:Below w.heap.size w (w.alloc (.cells #[.int .i64 c0,.int .i64 c1,.int .i64 c2,.int .i64 c3,.int .i64 c4,.int .i64 c5,.int .i64 c6,.int .i64 c7,.int .i64 c8,.int .i64 c9] 26)):=(Below.refl _ _).alloc (Nat.le_refl _) _
 have HW:=hide hW
 clear hW
 by_cases h0:1 ≤ c3 ∧ c3 ≤ 8
 ·have e0:Hid (decide (1 ≤ c3 ∧ c3 ≤ 8) = true):=by simp [Hid,h0]
  by_cases h1:1 ≤ c8 ∧ c8 ≤ 7
  ·have e1:Hid (decide (1 ≤ c8 ∧ c8 ≤ 7) = true):=by simp [Hid,h1]
   by_cases h2:0 ≤ c9 ∧ c9 ≤ 7
   ·have e2:Hid (decide (0 ≤ c9 ∧ c9 ≤ 7) = true):=by simp [Hid,h2]
    have HR:Hid ((decide (1 ≤ c3 ∧ c3 ≤ 8) && decide (1 ≤ c8 ∧ c8 ≤ 7) && decide (0 ≤ c9 ∧ c9 ≤ 7)) = true):=by rw [Hid,e0.out,e1.out,e2.out]; simp
    rw [HR.out]
    skip
    go_enter Tryz.func55,Tryz.ntmps55
    go_wp2_with fail
    refine (isWithin_any c3 (1) 8 _).mono ?_
    rintro e w1 ⟨rfl,hw1⟩
    subst hw1
    rw [e0.out]
    go_wp2_with fail
    refine (isWithin_any c8 (1) 7 _).mono ?_
    rintro e w1 ⟨rfl,hw1⟩
    subst hw1
    rw [e1.out]
    go_wp2_with fail
    refine (isWithin_any c9 (0) 7 _).mono ?_
    rintro e w1 ⟨rfl,hw1⟩
    subst hw1
    rw [e2.out]
    go_wp2
    go_ret
    exact ⟨rfl,HW.out⟩
   ·have e2:Hid (decide (0 ≤ c9 ∧ c9 ≤ 7) = false):=by simp [Hid,h2]
    have HR:Hid ((decide (1 ≤ c3 ∧ c3 ≤ 8) && decide (1 ≤ c8 ∧ c8 ≤ 7) && decide (0 ≤ c9 ∧ c9 ≤ 7)) = false):=by rw [Hid,e0.out,e1.out,e2.out]; simp
    rw [HR.out]
    skip
    go_enter Tryz.func55,Tryz.ntmps55
    go_wp2_with fail
    refine (isWithin_any c3 (1) 8 _).mono ?_
    rintro e w1 ⟨rfl,hw1⟩
    subst hw1
    rw [e0.out]
    go_wp2_with fail
    refine (isWithin_any c8 (1) 7 _).mono ?_
    rintro e w1 ⟨rfl,hw1⟩
    subst hw1
    rw [e1.out]
    go_wp2_with fail
    refine (isWithin_any c9 (0) 7 _).mono ?_
    rintro e w1 ⟨rfl,hw1⟩
    subst hw1
    rw [e2.out]
    go_wp2
    go_ret
    exact ⟨rfl,HW.out⟩
  ·have e1:Hid (decide (1 ≤ c8 ∧ c8 ≤ 7) = false):=by simp [Hid,h1]
   have HR:Hid ((decide (1 ≤ c3 ∧ c3 ≤ 8) && decide (1 ≤ c8 ∧ c8 ≤ 7) && decide (0 ≤ c9 ∧ c9 ≤ 7)) = false):=by rw [Hid,e0.out,e1.out]; simp
   rw [HR.out]
   skip
   go_enter Tryz.func55,Tryz.ntmps55
   go_wp2_with fail
   refine (isWithin_any c3 (1) 8 _).mono ?_
   rintro e w1 ⟨rfl,hw1⟩
   subst hw1
   rw [e0.out]
   go_wp2_with fail
   refine (isWithin_any c8 (1) 7 _).mono ?_
   rintro e w1 ⟨rfl,hw1⟩
   subst hw1
   rw [e1.out]
   go_wp2
   go_ret
   exact ⟨rfl,HW.out⟩
 ·have e0:Hid (decide (1 ≤ c3 ∧ c3 ≤ 8) = false):=by simp [Hid,h0]
  have HR:Hid ((decide (1 ≤ c3 ∧ c3 ≤ 8) && decide (1 ≤ c8 ∧ c8 ≤ 7) && decide (0 ≤ c9 ∧ c9 ≤ 7)) = false):=by rw [Hid,e0.out]; simp
  rw [HR.out]
  skip
  go_enter Tryz.func55,Tryz.ntmps55
  go_wp2_with fail
  refine (isWithin_any c3 (1) 8 _).mono ?_
  rintro e w1 ⟨rfl,hw1⟩
  subst hw1
  rw [e0.out]
  go_wp2
  go_ret
  exact ⟨rfl,HW.out⟩
theorem areWaits_any (c0 c1 c2 c3 c4 c5 c6 c7 c8 c9:Int) (w:World) :
  Calls Tryz.prog 54 #[.agg #[.int .i64 c0,.int .i64 c1,.int .i64 c2,.int .i64 c3,.int .i64 c4,.int .i64 c5,.int .i64 c6,.int .i64 c7,.int .i64 c8,.int .i64 c9]] w fun e w'=>e = .returned (.bool (decide (3 ≤ c4 ∧ c4 ≤ 20) && decide (4 ≤ c5 ∧ c5 ≤ 20) && decide (c4 < c5) && decide (3 ≤ c6 ∧ c6 ≤ 20))) ∧ Below w.heap.size w w':=by
 have hW:Below w.heap.size w (w.alloc (.cells #[.int .i64 c0,.int .i64 c1,.int .i64 c2,.int .i64 c3,.int .i64 c4,.int .i64 c5,.int .i64 c6,.int .i64 c7,.int .i64 c8,.int .i64 c9] 26)):=(Below.refl _ _).alloc (Nat.le_refl _) _
 have HW:=hide hW
 clear hW
 by_cases h0:3 ≤ c4 ∧ c4 ≤ 20
 ·have e0:Hid (decide (3 ≤ c4 ∧ c4 ≤ 20) = true):=by simp [Hid,h0]
  by_cases h1:4 ≤ c5 ∧ c5 ≤ 20
  ·have e1:Hid (decide (4 ≤ c5 ∧ c5 ≤ 20) = true):=by simp [Hid,h1]
   by_cases h2:c4 < c5
   ·have e2:Hid (decide (c4 < c5) = true):=by simp [Hid,h2]
    by_cases h3:3 ≤ c6 ∧ c6 ≤ 20
    ·have e3:Hid (decide (3 ≤ c6 ∧ c6 ≤ 20) = true):=by simp [Hid,h3]
     have HR:Hid ((decide (3 ≤ c4 ∧ c4 ≤ 20) && decide (4 ≤ c5 ∧ c5 ≤ 20) && decide (c4 < c5) && decide (3 ≤ c6 ∧ c6 ≤ 20)) = true):=by rw [Hid,e0.out,e1.out,e2.out,e3.out]; simp
     rw [HR.out]
     skip
     go_enter Tryz.func54,Tryz.ntmps54
     go_wp2_with fail
     refine (isWithin_any c4 (3) 20 _).mono ?_
     rintro e w1 ⟨rfl,hw1⟩
     subst hw1
     rw [e0.out]
     go_wp2_with fail
     refine (isWithin_any c5 (4) 20 _).mono ?_
     rintro e w1 ⟨rfl,hw1⟩
     subst hw1
     rw [e1.out]
     go_wp2_with fail
     refine (isWithin_any c6 (3) 20 _).mono ?_
     rintro e w1 ⟨rfl,hw1⟩
     subst hw1
     rw [e3.out]
     go_wp2
     go_ret
     exact ⟨rfl,HW.out⟩
    ·have e3:Hid (decide (3 ≤ c6 ∧ c6 ≤ 20) = false):=by simp [Hid,h3]
     have HR:Hid ((decide (3 ≤ c4 ∧ c4 ≤ 20) && decide (4 ≤ c5 ∧ c5 ≤ 20) && decide (c4 < c5) && decide (3 ≤ c6 ∧ c6 ≤ 20)) = false):=by rw [Hid,e0.out,e1.out,e2.out,e3.out]; simp
     rw [HR.out]
     skip
     go_enter Tryz.func54,Tryz.ntmps54
     go_wp2_with fail
     refine (isWithin_any c4 (3) 20 _).mono ?_
     rintro e w1 ⟨rfl,hw1⟩
     subst hw1
     rw [e0.out]
     go_wp2_with fail
     refine (isWithin_any c5 (4) 20 _).mono ?_
     rintro e w1 ⟨rfl,hw1⟩
     subst hw1
     rw [e1.out]
     go_wp2_with fail
     refine (isWithin_any c6 (3) 20 _).mono ?_
     rintro e w1 ⟨rfl,hw1⟩
     subst hw1
     rw [e3.out]
     go_wp2
     go_ret
     exact ⟨rfl,HW.out⟩
   ·have e2:Hid (decide (c4 < c5) = false):=by simp [Hid,h2]
    have HR:Hid ((decide (3 ≤ c4 ∧ c4 ≤ 20) && decide (4 ≤ c5 ∧ c5 ≤ 20) && decide (c4 < c5) && decide (3 ≤ c6 ∧ c6 ≤ 20)) = false):=by rw [Hid,e0.out,e1.out,e2.out]; simp
    rw [HR.out]
    skip
    go_enter Tryz.func54,Tryz.ntmps54
    go_wp2_with fail
    refine (isWithin_any c4 (3) 20 _).mono ?_
    rintro e w1 ⟨rfl,hw1⟩
    subst hw1
    rw [e0.out]
    go_wp2_with fail
    refine (isWithin_any c5 (4) 20 _).mono ?_
    rintro e w1 ⟨rfl,hw1⟩
    subst hw1
    rw [e1.out]
    go_wp2
    go_ret
    exact ⟨rfl,HW.out⟩
  ·have e1:Hid (decide (4 ≤ c5 ∧ c5 ≤ 20) = false):=by simp [Hid,h1]
   have HR:Hid ((decide (3 ≤ c4 ∧ c4 ≤ 20) && decide (4 ≤ c5 ∧ c5 ≤ 20) && decide (c4 < c5) && decide (3 ≤ c6 ∧ c6 ≤ 20)) = false):=by rw [Hid,e0.out,e1.out]; simp
   rw [HR.out]
   skip
   go_enter Tryz.func54,Tryz.ntmps54
   go_wp2_with fail
   refine (isWithin_any c4 (3) 20 _).mono ?_
   rintro e w1 ⟨rfl,hw1⟩
   subst hw1
   rw [e0.out]
   go_wp2_with fail
   refine (isWithin_any c5 (4) 20 _).mono ?_
   rintro e w1 ⟨rfl,hw1⟩
   subst hw1
   rw [e1.out]
   go_wp2
   go_ret
   exact ⟨rfl,HW.out⟩
 ·have e0:Hid (decide (3 ≤ c4 ∧ c4 ≤ 20) = false):=by simp [Hid,h0]
  have HR:Hid ((decide (3 ≤ c4 ∧ c4 ≤ 20) && decide (4 ≤ c5 ∧ c5 ≤ 20) && decide (c4 < c5) && decide (3 ≤ c6 ∧ c6 ≤ 20)) = false):=by rw [Hid,e0.out]; simp
  rw [HR.out]
  skip
  go_enter Tryz.func54,Tryz.ntmps54
  go_wp2_with fail
  refine (isWithin_any c4 (3) 20 _).mono ?_
  rintro e w1 ⟨rfl,hw1⟩
  subst hw1
  rw [e0.out]
  go_wp2
  go_ret
  exact ⟨rfl,HW.out⟩
end Go.Proofs.YtlbpjcphhocdkaaGreat
