/- Plain: where a message is cut: the block at a place, by its bytes. Plain: what stays within bounds. Plain: the calm: what each station does where nothing is lost and nobody is busy, and the number that falls. Plain: the .. -/
import Derived.Test.YtlbpjcphhocdkaaGreatQ03
import Derived.Test.YtlbpjcphhocdkaaGreatQ01
set_option maxRecDepth 1000000
set_option maxHeartbeats 16000000
namespace Go.Proofs.YtlbpjcphhocdkaaGreat.Mod
theorem chunk_get {α:Type} (n:Nat) (hn:1 ≤ n):∀ f (l:List α),l.length ≤ f → ∀ i,(chunk n f l)[i]? = if i = 0 ∨ i * n < l.length then some ((l.drop (i * n)).take n) else none
 | 0,l,h,i=>by
  have:l = []:=List.eq_nil_of_length_eq_zero (by omega)
  subst this
  cases i with
  | zero=>simp [chunk]
  | succ i=>simp [chunk]
 | f + 1,l,h,i=>by
  unfold chunk
  by_cases hl:l.length ≤ n
  ·rw [if_pos hl]
   cases i with
   | zero=>simp [List.take_of_length_le hl]
   | succ i =>
    have:¬ (i + 1 = 0 ∨ (i + 1) * n < l.length):=by
     have:n ≤ (i + 1) * n:=Nat.le_mul_of_pos_left n (by omega)
     omega
    rw [if_neg this]
    simp
  ·rw [if_neg hl]
   cases i with
   | zero=>simp
   | succ i =>
    rw [List.getElem?_cons_succ,chunk_get n hn f (l.drop n) (by simp; omega) i]
    have e:(i + 1) * n = n + i * n:=by rw [Nat.add_mul,Nat.one_mul,Nat.add_comm]
    rw [List.drop_drop,List.length_drop,e]
    by_cases h0:i = 0
    ·subst h0
     rw [if_pos (Or.inl rfl),if_pos (Or.inr (by omega))]
    ·by_cases h1:n + i * n < l.length
     ·rw [if_pos (Or.inr (by omega)),if_pos (Or.inr h1)]
     ·rw [if_neg (by omega),if_neg (by omega)]
theorem get_none {α:Type} {l:List α} {i:Nat}:l[i]? = none ↔ l.length ≤ i:=List.getElem?_eq_none_iff
theorem chunk_len {α:Type} (n:Nat) (hn:1 ≤ n) (f:Nat) (l:List α) (hl:l.length ≤ f) (i:Nat):i < (chunk n f l).length ↔ i = 0 ∨ i * n < l.length:=by
 have h:=chunk_get n hn f l hl i
 by_cases hc:i = 0 ∨ i * n < l.length
 ·rw [if_pos hc] at h
  exact ⟨fun _=>hc,fun _=>(List.getElem?_eq_some_iff.1 h).1⟩
 ·rw [if_neg hc] at h
  have:=get_none.1 h
  exact ⟨fun x=>by omega,fun x=>absurd x hc⟩
section
variable {c:Cfg} {m:Msg}
theorem piece_lt (hc:c.Ok) (i:Nat):i < (pieces c m).length ↔ i = 0 ∨ i * c.size < m.text.length:=chunk_len c.size hc.size.1 _ _ (Nat.le_refl _) i
theorem block_lt (hc:c.Ok) (j:Nat):j < nblk c m ↔ j = 0 ∨ j * (c.size * c.parts) < m.text.length:=by
 unfold nblk groups
 rw [chunk_len c.parts hc.parts.1 _ _ (Nat.le_refl _) j]
 constructor
 ·rintro (h | h)
  ·exact Or.inl h
  ·rcases (piece_lt hc _).1 h with h | h
   ·rcases Nat.mul_eq_zero.1 h with h | h
    ·exact Or.inl h
    ·have:=hc.parts; omega
   ·right
    rw [Nat.mul_comm c.size,← Nat.mul_assoc]
    exact h
 ·rintro (h | h)
  ·exact Or.inl h
  ·right
   rw [piece_lt hc]
   right
   rw [Nat.mul_assoc,Nat.mul_comm c.parts]
   exact h
/-- Is it the last one? -/
theorem block_last (hc:c.Ok) {j:Nat} (hj:j < nblk c m):(blkAt c m j).last = decide (m.text.length ≤ j * (c.size * c.parts) + c.size * c.parts):=by
 have h:=block_lt (m:=m) hc (j + 1)
 have e:(j + 1) * (c.size * c.parts) = j * (c.size * c.parts) + c.size * c.parts:=by rw [Nat.add_mul,Nat.one_mul]
 rw [e] at h
 show decide (j + 1 = nblk c m) = _
 apply decide_eq_decide.2
 constructor
 ·intro h1
  have:¬ j + 1 < nblk c m:=by omega
  rw [h] at this
  omega
 ·intro h1
  have:¬ j + 1 < nblk c m:=fun x=>by rcases h.1 x with y | y <;> omega
  omega
/-- Its parts. -/
theorem block_parts (hc:c.Ok) {j:Nat} (hj:j < nblk c m):(blkAt c m j).parts = chunk c.size ((m.text.drop (j * (c.size * c.parts))).take (c.size * c.parts)).length ((m.text.drop (j * (c.size * c.parts))).take (c.size * c.parts)):=by
 have hS:=hc.size.1
 have hP:=hc.parts.1
 have hpos:1 ≤ c.size * c.parts:=Nat.mul_le_mul hS hP
 have hg:=chunk_get c.parts hP (pieces c m).length (pieces c m) (Nat.le_refl _) j
 have hj':=hj
 unfold nblk groups at hj'
 rw [chunk_len c.parts hP _ _ (Nat.le_refl _) j] at hj'
 rw [if_pos hj'] at hg
 have e:(blkAt c m j).parts = ((pieces c m).drop (j * c.parts)).take c.parts:=by
  show (groups c m).getD j [] = _
  unfold groups
  rw [List.getD,hg]
  rfl
 rw [e]
 have hj2:j = 0 ∨ j * (c.size * c.parts) < m.text.length:=(block_lt hc j).1 hj
 apply List.ext_getElem?
 intro i
 rw [chunk_get c.size hS _ _ (Nat.le_refl _) i,List.getElem?_take,List.getElem?_drop]
 unfold pieces
 rw [chunk_get c.size hS _ _ (Nat.le_refl _)]
 simp only [List.length_take,List.length_drop]
 have e1:(j * c.parts + i) * c.size = j * (c.size * c.parts) + i * c.size:=by rw [Nat.add_mul,Nat.mul_assoc,Nat.mul_comm c.parts]
 rw [e1]
 by_cases hi:i < c.parts
 ·rw [if_pos hi]
  have hi2:i * c.size + c.size ≤ c.size * c.parts:=by
   have:(i + 1) * c.size ≤ c.parts * c.size:=Nat.mul_le_mul_right _ hi
   rw [Nat.add_mul,Nat.one_mul,Nat.mul_comm c.parts] at this
   exact this
  have hv:(m.text.drop (j * (c.size * c.parts) + i * c.size)).take c.size = (((m.text.drop (j * (c.size * c.parts))).take (c.size * c.parts)).drop (i * c.size)).take c.size:=by
   rw [List.drop_take,List.take_take,List.drop_drop,Nat.min_eq_left (by omega)]
  rw [← hv]
  by_cases hi0:i = 0
  ·subst hi0
   rw [if_pos (Or.inl rfl)]
   rcases hj2 with rfl | hj2
   ·simp
   ·rw [if_pos (Or.inr (by omega))]
  ·by_cases h1:j * (c.size * c.parts) + i * c.size < m.text.length
   ·rw [if_pos (Or.inr h1),if_pos (Or.inr (by omega))]
   ·rw [if_neg ?_,if_neg (by omega)]
    rintro (h | h)
    ·rcases Nat.eq_zero_of_add_eq_zero h with ⟨_,h⟩
     exact hi0 h
    ·exact h1 h
 ·rw [if_neg hi,if_neg ?_]
  have:c.parts * c.size ≤ i * c.size:=Nat.mul_le_mul_right _ (by omega)
  rw [Nat.mul_comm c.parts] at this
  rintro (h | h)
  ·omega
  ·omega
end
/-- A message that may be sent. -/
def MsgFit (m:Msg):Prop:=Blk.headOk m.head = true ∧ m.text.length ≤ 200 ∧ (m.clear = true ∨ Blk.hasCtl m.text = false)
theorem hasCtl_sub {l r:List UInt8} (h:∀ x ∈ r,x ∈ l) (hl:Blk.hasCtl l = false):Blk.hasCtl r = false:=by
 unfold Blk.hasCtl at *
 rw [List.any_eq_false] at *
 exact fun x hx=>hl x (h x hx)
/-- Its blocks may be sent. -/
theorem blk_fit {c:Cfg} (hc:c.Ok) {m:Msg} (hm:MsgFit m) {j:Nat} (hj:j < nblk c m):Blk.berr (blkAt c m j).head (blkAt c m j).parts (blkAt c m j).clear = 0:=by
 obtain ⟨h1,h2,h3⟩:=hm
 have hp:=block_parts hc hj
 have hS:=hc.size
 have hP:=hc.parts
 generalize hT:(m.text.drop (j * (c.size * c.parts))).take (c.size * c.parts) = T at hp
 have hTl:T.length ≤ c.size * c.parts:=by rw [← hT]; simp; omega
 have hlen:=chunk_len c.size hS.1 T.length T (Nat.le_refl _)
 rw [← hp] at hlen
 have n1:1 ≤ (blkAt c m j).parts.length:=by have:=(hlen 0).2 (Or.inl rfl); omega
 have n2:(blkAt c m j).parts.length ≤ 4:=by
  rcases Nat.lt_or_ge 4 (blkAt c m j).parts.length with h | h
  ·rcases (hlen 4).1 h with h | h
   ·omega
   ·have:c.size * c.parts ≤ c.size * 4:=Nat.mul_le_mul_left _ hP.2
    omega
  ·exact h
 have hh:Blk.headOk (blkAt c m j).head = true:=by
  show Blk.headOk (if j = 0 then m.head else []) = true
  split
  ·exact h1
  ·rfl
 have hall:(blkAt c m j).parts.all (Blk.partOk (blkAt c m j).clear) = true:=by
  rw [List.all_eq_true]
  intro x hx
  rw [hp] at hx
  have l1:=chunk_le c.size hS.1 _ _ (Nat.le_refl _) x hx
  have hsub:∀ y ∈ x,y ∈ m.text:=by
   intro y hy
   have:y ∈ (chunk c.size T.length T).flatten:=List.mem_flatten.2 ⟨x,hx,hy⟩
   rw [chunk_flatten] at this
   rw [← hT] at this
   exact List.mem_of_mem_drop (List.mem_of_mem_take this)
  show (decide (x.length ≤ 32) && (m.clear || !Blk.hasCtl x)) = true
  rcases h3 with h3 | h3
  ·rw [h3]; simp; omega
  ·rw [hasCtl_sub hsub h3]; simp; omega
 unfold Blk.berr
 rw [if_neg (by rw [hh]; decide),if_neg (by omega),if_neg (by rw [hall]; decide)]
end Go.Proofs.YtlbpjcphhocdkaaGreat.Mod
namespace Go.Proofs.YtlbpjcphhocdkaaGreat.Pst
open Go.Proofs.YtlbpjcphhocdkaaGreat.Mod
/-- A station's numbers and messages are within bounds. -/
structure StB (c:Cfg) (now:Nat) (s:Stn):Prop where
 qlen:s.queue.length ≤ 8
 qj:s.queue.length ≤ s.joined
 fit:∀ m ∈ s.queue,MsgFit m
 off:s.mode = 1 ∨ s.mode = 2 → s.off ≤ c.waits
 blk:s.mode = 2 → s.block < nblk c (s.queue.headD noMsg)
 got:s.mode = 3 → (joinedM s.got).head.length ≤ 8 ∧ (joinedM s.got).text.length ≤ 200
 rest:s.rest ≤ now + 3
theorem StB.later' {c:Cfg} {now:Nat} {s:Stn} (h:StB c now s):StB c (now + 1) s:=⟨h.qlen,h.qj,h.fit,h.off,h.blk,h.got,by have:=h.rest; omega⟩
theorem ends_b {c:Cfg} {now i k:Nat} {s:Stn} (h:StB c now s):StB c now (ends now i s k).1:=by
 refine ⟨?_,?_,?_,by simp [ends],by simp [ends],by simp [ends],Nat.le_refl _⟩
 ·have:=h.qlen; simp only [ends,List.length_tail]; omega
 ·have:=h.qj; simp only [ends,List.length_tail]; omega
 ·intro m hm; exact h.fit m (List.mem_of_mem_tail hm)
theorem answers_b {c:Cfg} {now:Nat} {s:Stn} (h:StB c now s):StB c now (answers c now s).1:=by
 unfold answers
 split
 ·exact ⟨h.qlen,h.qj,h.fit,by simp,by simp,by simp,h.rest⟩
 ·exact ⟨h.qlen,h.qj,h.fit,by simp,by simp,fun _=>⟨by simp [joinedM],by simp [joinedM]⟩,h.rest⟩
theorem later_b {c:Cfg} {now i:Nat} {s:Stn} (h:StB c now s):StB c now (later c now i s).1:=by
 unfold later
 split
 ·rename_i hw
  have h':StB c now { s with off:=s.off + 1,mode:=0 }:=⟨h.qlen,h.qj,h.fit,by simp,by simp,by simp,h.rest⟩
  refine ⟨?_,?_,?_,by simp [ends],by simp [ends],by simp [ends],Nat.le_refl _⟩
  ·have:=h.qlen; simp only [ends,List.length_tail]; omega
  ·have:=h.qj; simp only [ends,List.length_tail]; omega
  ·intro m hm; exact h.fit m (List.mem_of_mem_tail hm)
 ·exact ⟨h.qlen,h.qj,h.fit,fun _=>by simp only; omega,h.blk,h.got,h.rest⟩
theorem send_b {c:Cfg} {now k t:Nat} {s:Stn} (h:StB c now s) (hb:k < nblk c (s.queue.headD noMsg)):StB c now (sendBlk c now { s with mode:=2,block:=k,tries:=t,off:=0,free:=false }).1 :=
 ⟨h.qlen,h.qj,h.fit,fun _=>Nat.zero_le _,fun _=>hb,by simp [sendBlk],h.rest⟩
theorem one_b {c:Cfg} {now i:Nat} {s:Stn} {q:Put} (h:Ans) (hs:StOk c now i s q) (hb:StB c now s):StB c (now + 1) (one c (now + 1) i s h).1:=by
 have hl:=hb.later'
 have hm3:=hs.mode
 unfold one named
 rcases (show s.mode = 0 ∨ s.mode = 1 ∨ s.mode = 2 ∨ s.mode = 3 by omega) with hm | hm | hm | hm
 ·simp only [hm,if_neg (show ¬ (0:Nat) = 1 by decide),if_neg (show ¬ (0:Nat) = 2 by decide),if_neg (show ¬ (0:Nat) = 3 by decide)]
  unfold idle
  split
  ·rename_i d hd
   split at hd
   ·cases hd; exact answers_b hl
   ·cases hd
  ·simp only [ne_eq,not_true_eq_false,false_and,if_false,true_and]
   split
   ·exact ⟨hl.qlen,hl.qj,hl.fit,fun _=>Nat.zero_le _,by simp [bids],by simp [bids],hl.rest⟩
   ·exact hl
 ·simp only [hm,if_true]
  unfold bidding
  split
  ·rename_i d hd
   split at hd
   ·cases hd
    exact send_b hl (nblk_pos c _)
   ·split at hd
    ·cases hd; exact later_b hl
    ·split at hd
     ·cases hd; exact answers_b hl
     ·cases hd
  ·split
   ·unfold over
    rw [if_neg (by omega)]
    split
    ·exact ends_b hl
    ·exact ⟨hl.qlen,hl.qj,hl.fit,hl.off,hl.blk,hl.got,hl.rest⟩
   ·rw [if_neg (by simp)]
    exact hl
 ·simp only [hm,if_neg (show ¬ (2:Nat) = 1 by decide),if_true]
  unfold sending
  split
  ·rename_i d hd
   split at hd
   ·split at hd
    ·cases hd; exact ends_b hl
    ·rename_i hn
     cases hd
     have:=hb.blk hm
     have h2:s.block + 1 < nblk c (s.queue.headD noMsg):=by omega
     have hh:=send_b (t:=1) hl h2
     refine ⟨hh.qlen,hh.qj,hh.fit,fun _=>Nat.zero_le _,fun _=>h2,?_,hh.rest⟩
     intro h3
     have:s.mode = 3:=h3
     omega
   ·split at hd
    ·split at hd
     ·cases hd; exact ends_b hl
     ·cases hd
      exact ⟨hl.qlen,hl.qj,hl.fit,hl.off,hl.blk,hl.got,hl.rest⟩
    ·split at hd
     ·cases hd; exact later_b hl
     ·cases hd
  ·split
   ·unfold over
    rw [if_neg (by omega)]
    split
    ·exact ends_b hl
    ·exact ⟨hl.qlen,hl.qj,hl.fit,hl.off,hl.blk,hl.got,hl.rest⟩
   ·rw [if_neg (by simp)]
    exact hl
 ·simp only [hm,if_neg (show ¬ (3:Nat) = 1 by decide),if_neg (show ¬ (3:Nat) = 2 by decide),if_true]
  have idl:StB c (now + 1) { s with mode:=0,got:=[] }:=⟨hl.qlen,hl.qj,hl.fit,by simp,by simp,by simp,hl.rest⟩
  have same:StB c (now + 1) { s with due:=now + 1 + c.lost }:=⟨hl.qlen,hl.qj,hl.fit,hl.off,hl.blk,hl.got,hl.rest⟩
  unfold receiving
  cases h with
  | data hd ps cl la =>
   simp only
   unfold takes
   split
   ·exact same
   ·rename_i hbig
    split
    ·exact ⟨hl.qlen,hl.qj,hl.fit,by simp [hm],by simp [hm],fun _=>⟨by simp [joinedM],by simp [joinedM]⟩,hl.rest⟩
    ·exact ⟨hl.qlen,hl.qj,hl.fit,by simp [hm],by simp [hm],fun _=>⟨by simp only; omega,by simp only; omega⟩,hl.rest⟩
  | none n =>
   simp only
   split
   ·rename_i d hd
    split at hd
    ·cases hd; exact same
    ·split at hd
     ·cases hd; exact same
     ·split at hd
      ·cases hd; exact answers_b hl
      ·split at hd
       ·cases hd; exact idl
       ·cases hd
   ·split
    ·unfold over
     rw [if_pos hm]
     exact idl
    ·rw [if_neg (by simp)]
     exact hl
end Go.Proofs.YtlbpjcphhocdkaaGreat.Pst
namespace Go.Proofs.YtlbpjcphhocdkaaGreat.Mod
/-- What is heard of what was put,where nothing is lost. -/
def exact':Put → Ans
 | .nil=>.none 0
 | .short k=>.none k
 | .blk b=>.data b.head b.parts b.clear b.last
def hE (q p:Put):Ans:=if q = .nil then exact' p else .none 0
def told (d:Did):Prop:=∃ e,d.2.2 = some e ∧ (e.kind = 2 ∨ e.kind = 3)
/-! The number,state by state. -/
def up (s:Stn):Prop:=s.mode = 1 ∨ s.mode = 2
instance (s:Stn):Decidable (up s):=by unfold up; infer_instance
/-- A block that may be sent. -/
def BkOk (b:Bk):Prop:=Blk.berr b.head b.parts b.clear = 0
/-- A transmission that can be put. -/
def PutOk:Put → Prop
 | .nil=>True
 | .short k=>3 ≤ k ∧ k ≤ 9
 | .blk b=>BkOk b
end Go.Proofs.YtlbpjcphhocdkaaGreat.Mod
namespace Go.Proofs.YtlbpjcphhocdkaaGreat.Pst
open Go.Proofs.YtlbpjcphhocdkaaGreat.Mod
/-- What a station puts can be put. -/
theorem one_put {c:Cfg} {now i:Nat} {s:Stn} {q:Put} (hc:c.Ok) (h:Ans) (hs:StOk c now i s q) (hb:StB c now s):PutOk (one c (now + 1) i s h).2.1:=by
 have hB:=one_b h hs hb
 have hblk:∀ s':Stn,s'.mode = 2 → s'.queue = s.queue → s'.queue ≠ [] → s'.block < nblk c (s'.queue.headD noMsg) → PutOk (sendBlk c (now + 1) s').2.1:=by
  intro s' _ hq hne hk
  have hm:MsgFit (s'.queue.headD noMsg):=by
   cases hq':s'.queue with
   | nil=>exact absurd hq' hne
   | cons a l=>exact hb.fit a (by rw [← hq,hq']; simp)
  exact blk_fit hc hm hk
 have hends:∀ (s':Stn) k,PutOk (ends (now + 1) i s' k).2.1:=by
  intro s' k
  simp only [ends]
  split
  ·exact ⟨by omega,by omega⟩
  ·trivial
 have hans:∀ s':Stn,PutOk (answers c (now + 1) s').2.1:=by
  intro s'
  unfold answers
  split <;> exact ⟨by omega,by omega⟩
 have htells:∀ s':Stn,PutOk (tells s'):=by
  intro s'
  rcases tells_short s' with e | e | e <;> rw [e] <;> exact ⟨by omega,by omega⟩
 have hlat:PutOk (later c (now + 1) i s).2.1:=by
  unfold later
  split
  ·exact hends _ _
  ·trivial
 have hov:PutOk (over c (now + 1) i s).2.1:=by
  unfold over
  split
  ·trivial
  ·split
   ·exact hends _ _
   ·simp only
    split <;> exact ⟨by omega,by omega⟩
 have hq:s.mode = 1 ∨ s.mode = 2 → s.queue ≠ []:=hs.que
 unfold one at hB ⊢
 cases hn:named c (now + 1) i s h with
 | none =>
  simp only
  split
  ·exact hov
  ·split
   ·exact ⟨by omega,by omega⟩
   ·trivial
 | some d =>
  rw [hn] at hB
  simp only at hB ⊢
  unfold named at hn
  split at hn
  ·rename_i m1
   unfold bidding at hn
   split at hn
   ·cases hn
    exact hblk _ rfl rfl (hq (Or.inl m1)) (hB.blk rfl)
   ·split at hn
    ·cases hn; exact hlat
    ·split at hn
     ·cases hn; exact hans _
     ·cases hn
  ·split at hn
   ·rename_i m2
    unfold sending at hn
    split at hn
    ·split at hn
     ·cases hn; exact hends _ _
     ·cases hn
      exact hblk _ m2 rfl (hq (Or.inr m2)) (hB.blk m2)
    ·split at hn
     ·split at hn
      ·cases hn; exact hends _ _
      ·cases hn
       exact hblk _ m2 rfl (hq (Or.inr m2)) (hB.blk m2)
     ·split at hn
      ·cases hn; exact hlat
      ·cases hn
   ·split at hn
    ·unfold receiving at hn
     split at hn
     ·cases hn
      unfold takes
      split
      ·exact ⟨by omega,by omega⟩
      ·split
       ·exact htells _
       ·exact htells _
     ·split at hn
      ·cases hn; exact ⟨by omega,by omega⟩
      ·split at hn
       ·cases hn; exact htells _
       ·split at hn
        ·cases hn; exact hans _
        ·split at hn
         ·cases hn; trivial
         ·cases hn
    ·unfold idle at hn
     split at hn
     ·cases hn; exact hans _
     ·cases hn
theorem sbody_le (k:Nat):(sbody k).length ≤ 2:=by unfold sbody; repeat' (first | split | simp)
theorem put_len {c:Cfg} {p:Put} (h:PutOk p):(txOf c p).length ≤ 320:=by
 cases p with
 | nil=>simp [txOf]
 | short k=>have:=sbody_le k; simp only [txOf,List.length_append,List.length_cons,List.length_nil]; omega
 | blk b =>
  obtain ⟨h1,_,h3,h4⟩:=Blk.berr_ok h
  have hh:b.head.length ≤ 8:=by
   unfold Blk.headOk at h1
   simp only [Bool.and_eq_true,decide_eq_true_eq] at h1
   exact h1.1
  have hl:=Blk.bodyTo_length b.head b.parts b.clear b.last c.check 32 (Blk.parts_le h4) b.parts.length
  have:b.parts.length * (b.head.length + 2 * 32 + 7) ≤ 4 * 79:=Nat.mul_le_mul h3 (by omega)
  simp only [txOf,Blk.body,List.length_append,List.length_cons,List.length_nil]
  omega
/-- A line whose numbers are within bounds. -/
structure LGood (x:Ln):Prop where
 c:x.c.Ok
 s0:∃ q,StOk x.c x.now 0 x.s0 q
 s1:∃ q,StOk x.c x.now 1 x.s1 q
 b0:StB x.c x.now x.s0
 b1:StB x.c x.now x.s1
 o0:x.on0.length ≤ 320
 o1:x.on1.length ≤ 320
theorem newS_ok (c:Cfg) (i:Nat):StOk c 0 i newS .nil:=⟨by simp [newS],by simp [newS],by simp [newS],by simp [newS],by simp [newS],Or.inl rfl⟩
theorem newS_b (c:Cfg):StB c 0 newS:=⟨by simp [newS],by simp [newS],by simp [newS],by simp [newS],by simp [newS],by simp [newS],by simp [newS]⟩
theorem LGood.new {c:Cfg} (hc:c.Ok):LGood (newL c):=⟨hc,⟨_,newS_ok c 0⟩,⟨_,newS_ok c 1⟩,newS_b c,newS_b c,by simp [newL],by simp [newL]⟩
theorem LGood.tick {x:Ln} (h:LGood x):LGood (tick x):=by
 obtain ⟨q0,h0⟩:=h.s0
 obtain ⟨q1,h1⟩:=h.s1
 exact ⟨h.c,⟨_,one_ok h.c h0⟩,⟨_,one_ok h.c h1⟩,one_b _ h0 h.b0,one_b _ h1 h.b1,put_len (one_put h.c _ h0 h.b0),put_len (one_put h.c _ h1 h.b1)⟩
/-- Submit. -/
def subS (s:Stn) (m:Msg):Stn:={ s with queue:=s.queue ++ [m],joined:=s.joined + 1 }
def stnOf (x:Ln) (st:Int):Stn:=if st = 0 then x.s0 else x.s1
def textOk (m:Msg):Bool:=decide (m.text.length ≤ 200) && (m.clear || !Blk.hasCtl m.text)
def submitE (x:Ln) (st:Int) (m:Msg):Int :=
 if ¬ (st = 0 ∨ st = 1) then 7 else if Blk.headOk m.head = false then 2 else if textOk m = false then 4 else if x.c.queue ≤ (stnOf x st).queue.length then 8 else 0
def submitN (x:Ln) (st:Int) (m:Msg):Nat:=if submitE x st m = 0 then (stnOf x st).joined + 1 else 0
def submitL (x:Ln) (st:Int) (m:Msg):Ln :=
 if submitE x st m = 0 then (if st = 0 then { x with s0:=subS x.s0 m } else { x with s1:=subS x.s1 m }) else x
theorem fit_iff (m:Msg):MsgFit m ↔ Blk.headOk m.head = true ∧ textOk m = true:=by
 unfold MsgFit textOk
 simp only [Bool.and_eq_true,Bool.or_eq_true,decide_eq_true_eq,Bool.not_eq_true']
theorem submit_cases {x:Ln} {st:Int} {m:Msg} (h:submitE x st m = 0):(st = 0 ∨ st = 1) ∧ MsgFit m ∧ (stnOf x st).queue.length < x.c.queue:=by
 unfold submitE at h
 split at h
 ·simp at h
 ·split at h
  ·simp at h
  ·split at h
   ·simp at h
   ·split at h
    ·simp at h
    ·rename_i a b d e
     refine ⟨?_,(fit_iff m).2 ⟨by simpa using b,by simpa using d⟩,by omega⟩
     by_cases k:st = 0 ∨ st = 1
     ·exact k
     ·exact absurd k a
theorem sub_ok {c:Cfg} {now i:Nat} {s:Stn} {q:Put} (m:Msg) (h:StOk c now i s q):StOk c now i (subS s m) q :=
 ⟨h.mode,h.bid,h.snd,h.rcv,fun _=>by simp [subS],h.put⟩
theorem head_sub {s:Stn} (m:Msg) (h:s.queue ≠ []):(subS s m).queue.headD noMsg = s.queue.headD noMsg:=by
 cases hq:s.queue with
 | nil=>exact absurd hq h
 | cons a l=>simp [subS,hq]
theorem sub_b {c:Cfg} {now i:Nat} {s:Stn} {q:Put} {m:Msg} (hc:c.Ok) (ho:StOk c now i s q) (h:StB c now s) (hm:MsgFit m) (hl:s.queue.length < c.queue):StB c now (subS s m):=by
 have:=hc.queue
 refine ⟨by simp [subS]; omega,by have:=h.qj; simp [subS]; omega,?_,h.off,?_,h.got,h.rest⟩
 ·intro a ha
  simp only [subS,List.mem_append,List.mem_singleton] at ha
  rcases ha with ha | rfl
  ·exact h.fit a ha
  ·exact hm
 ·intro m2
  rw [head_sub m (ho.que (Or.inr m2))]
  exact h.blk m2
theorem LGood.submit {x:Ln} (h:LGood x) (st:Int) (m:Msg):LGood (submitL x st m):=by
 unfold submitL
 split
 ·rename_i e
  obtain ⟨h1,h2,h3⟩:=submit_cases e
  obtain ⟨q0,k0⟩:=h.s0
  obtain ⟨q1,k1⟩:=h.s1
  split
  ·rename_i z
   unfold stnOf at h3
   rw [if_pos z] at h3
   exact ⟨h.c,⟨q0,sub_ok m k0⟩,⟨q1,k1⟩,sub_b h.c k0 h.b0 h2 h3,h.b1,h.o0,h.o1⟩
  ·rename_i z
   unfold stnOf at h3
   rw [if_neg z] at h3
   exact ⟨h.c,⟨q0,k0⟩,⟨q1,sub_ok m k1⟩,h.b0,sub_b h.c k1 h.b1 h2 h3,h.o0,h.o1⟩
 ·exact h
/-- Busy. -/
def busyE (st:Int):Int:=if st = 0 ∨ st = 1 then 0 else 7
def busyL (x:Ln) (st:Int) (on:Bool):Ln :=
 if st = 0 then { x with s0:={ x.s0 with busy:=on } } else if st = 1 then { x with s1:={ x.s1 with busy:=on } } else x
theorem busy_ok {c:Cfg} {now i:Nat} {s:Stn} {q:Put} (on:Bool) (h:StOk c now i s q):StOk c now i { s with busy:=on } q:=⟨h.mode,h.bid,h.snd,h.rcv,h.que,h.put⟩
theorem busy_b {c:Cfg} {now:Nat} {s:Stn} (on:Bool) (h:StB c now s):StB c now { s with busy:=on }:=⟨h.qlen,h.qj,h.fit,h.off,h.blk,h.got,h.rest⟩
theorem LGood.busy {x:Ln} (h:LGood x) (st:Int) (on:Bool):LGood (busyL x st on):=by
 obtain ⟨q0,k0⟩:=h.s0
 obtain ⟨q1,k1⟩:=h.s1
 unfold busyL
 split
 ·exact ⟨h.c,⟨q0,busy_ok on k0⟩,⟨q1,k1⟩,busy_b on h.b0,h.b1,h.o0,h.o1⟩
 ·split
  ·exact ⟨h.c,⟨q0,k0⟩,⟨q1,busy_ok on k1⟩,h.b0,busy_b on h.b1,h.o0,h.o1⟩
  ·exact h
/-- Fault. -/
def faultOf (s:List UInt8) (k p v:Int):Option (List UInt8) :=
 if k = 0 then some []
 else if k = 1 then (if 0 ≤ p ∧ p ≤ s.length then some (s.take p.toNat) else none)
 else if k = 2 then (if (0 ≤ p ∧ p < s.length) ∧ 1 ≤ v ∧ v ≤ 255 then some (s.set p.toNat (s.getD p.toNat 0 ^^^ UInt8.ofNat v.toNat)) else none)
 else if k = 3 then (if (0 ≤ p ∧ p ≤ s.length) ∧ (0 ≤ v ∧ v ≤ 255) ∧ s.length < 320 then some (s.take p.toNat ++ UInt8.ofNat v.toNat::s.drop p.toNat) else none)
 else none
def faultE (x:Ln) (k p v:Int):Int :=
 if x.on0 ≠ [] ∧ x.on1 = [] then (if (faultOf x.on0 k p v).isSome then 0 else 10)
 else if x.on0 = [] ∧ x.on1 ≠ [] then (if (faultOf x.on1 k p v).isSome then 0 else 10)
 else 9
def faultL (x:Ln) (k p v:Int):Ln :=
 if x.on0 ≠ [] ∧ x.on1 = [] then { x with on0:=(faultOf x.on0 k p v).getD x.on0 }
 else if x.on0 = [] ∧ x.on1 ≠ [] then { x with on1:=(faultOf x.on1 k p v).getD x.on1 }
 else x
theorem fault_len {s l:List UInt8} {k p v:Int} (h:faultOf s k p v = some l) (hs:s.length ≤ 320):l.length ≤ 320:=by
 unfold faultOf at h
 split at h
 ·cases h; simp
 ·split at h
  ·split at h
   ·cases h; simp; omega
   ·cases h
  ·split at h
   ·split at h
    ·cases h; simp; omega
    ·cases h
   ·split at h
    ·split at h
     ·cases h; simp; omega
     ·cases h
    ·cases h
theorem LGood.fault {x:Ln} (h:LGood x) (k p v:Int):LGood (faultL x k p v):=by
 have hl:∀ s:List UInt8,s.length ≤ 320 → ((faultOf s k p v).getD s).length ≤ 320:=by
  intro s hs
  cases e:faultOf s k p v with
  | none=>exact hs
  | some l=>exact fault_len e hs
 unfold faultL
 split
 ·exact ⟨h.c,h.s0,h.s1,h.b0,h.b1,hl _ h.o0,h.o1⟩
 ·split
  ·exact ⟨h.c,h.s0,h.s1,h.b0,h.b1,h.o0,hl _ h.o1⟩
  ·exact h
/-- What it counted and what it took is at most the tick's number. -/
def Gr (n:Nat) (s:Stn):Prop:=s.count ≤ n ∧ s.got.length ≤ n
theorem Gr.le {n m:Nat} {s:Stn} (h:Gr n s) (k:n ≤ m):Gr m s:=⟨Nat.le_trans h.1 k,Nat.le_trans h.2 k⟩
theorem one_grow {c:Cfg} {now i n:Nat} {s:Stn} (h:Ans) (g:Gr n s):Gr (n + 1) (one c now i s h).1:=by
 have g1:=g.le (Nat.le_succ n)
 have hans:Gr (n + 1) (answers c now s).1:=by
  unfold answers
  split <;> exact ⟨Nat.zero_le _,Nat.zero_le _⟩
 have hlat:Gr (n + 1) (later c now i s).1:=by
  unfold later
  split <;> exact g1
 have htak:∀ b,Gr (n + 1) (takes c now i s b).1:=by
  intro b
  unfold takes
  split
  ·exact g1
  ·split
   ·exact ⟨Nat.succ_le_succ g.1,Nat.zero_le _⟩
   ·exact ⟨Nat.succ_le_succ g.1,by have:=g.2; simp; omega⟩
 have hov:Gr (n + 1) (over c now i s).1:=by
  unfold over
  split
  ·exact ⟨g1.1,Nat.zero_le _⟩
  ·split <;> exact g1
 unfold one
 cases hn:named c now i s h with
 | none =>
  simp only
  split
  ·exact hov
  ·split <;> exact g1
 | some d =>
  simp only
  unfold named at hn
  split at hn
  ·unfold bidding at hn
   split at hn
   ·cases hn; exact g1
   ·split at hn
    ·cases hn; exact hlat
    ·split at hn
     ·cases hn; exact hans
     ·cases hn
  ·split at hn
   ·unfold sending at hn
    split at hn
    ·split at hn <;> (cases hn; exact g1)
    ·split at hn
     ·split at hn <;> (cases hn; exact g1)
     ·split at hn
      ·cases hn; exact hlat
      ·cases hn
   ·split at hn
    ·unfold receiving at hn
     split at hn
     ·cases hn; exact htak _
     ·split at hn
      ·cases hn; exact g1
      ·split at hn
       ·cases hn; exact g1
       ·split at hn
        ·cases hn; exact hans
        ·split at hn
         ·cases hn; exact ⟨g1.1,Nat.zero_le _⟩
         ·cases hn
    ·unfold idle at hn
     split at hn
     ·cases hn; exact hans
     ·cases hn
/-- A line's counts. -/
structure LGr (x:Ln):Prop where
 a:Gr x.now x.s0
 b:Gr x.now x.s1
theorem LGr.new (c:Cfg):LGr (newL c):=⟨⟨Nat.zero_le _,Nat.zero_le _⟩,⟨Nat.zero_le _,Nat.zero_le _⟩⟩
theorem LGr.tick {x:Ln} (h:LGr x):LGr (tick x):=⟨one_grow _ h.a,one_grow _ h.b⟩
theorem LGr.submit {x:Ln} (h:LGr x) (st:Int) (m:Msg):LGr (submitL x st m):=by
 unfold submitL
 split
 ·split <;> exact ⟨h.a,h.b⟩
 ·exact h
theorem LGr.busy {x:Ln} (h:LGr x) (st:Int) (on:Bool):LGr (busyL x st on):=by
 unfold busyL
 split
 ·exact ⟨h.a,h.b⟩
 ·split <;> exact ⟨h.a,h.b⟩
theorem LGr.fault {x:Ln} (h:LGr x) (k p v:Int):LGr (faultL x k p v):=by
 unfold faultL
 split
 ·exact ⟨h.a,h.b⟩
 ·split <;> exact ⟨h.a,h.b⟩
theorem one_joined (c:Cfg) (now i:Nat) (s:Stn) (h:Ans):(one c now i s h).1.joined = s.joined:=by
 have hans:(answers c now s).1.joined = s.joined:=by
  unfold answers
  split <;> rfl
 have hlat:(later c now i s).1.joined = s.joined:=by
  unfold later
  split <;> rfl
 have htak:∀ b,(takes c now i s b).1.joined = s.joined:=by
  intro b
  unfold takes
  split
  ·rfl
  ·split <;> rfl
 have hov:(over c now i s).1.joined = s.joined:=by
  unfold over
  split
  ·rfl
  ·split <;> rfl
 unfold one
 cases hn:named c now i s h with
 | none =>
  simp only
  split
  ·exact hov
  ·split <;> rfl
 | some d =>
  simp only
  unfold named at hn
  split at hn
  ·unfold bidding at hn
   split at hn
   ·cases hn; rfl
   ·split at hn
    ·cases hn; exact hlat
    ·split at hn
     ·cases hn; exact hans
     ·cases hn
  ·split at hn
   ·unfold sending at hn
    split at hn
    ·split at hn <;> (cases hn; rfl)
    ·split at hn
     ·split at hn <;> (cases hn; rfl)
     ·split at hn
      ·cases hn; exact hlat
      ·cases hn
   ·split at hn
    ·unfold receiving at hn
     split at hn
     ·cases hn; exact htak _
     ·split at hn
      ·cases hn; rfl
      ·split at hn
       ·cases hn; rfl
       ·split at hn
        ·cases hn; exact hans
        ·split at hn
         ·cases hn; rfl
         ·cases hn
    ·unfold idle at hn
     split at hn
     ·cases hn; exact hans
     ·cases hn
/-- How many have joined,and which tick it is,is at most n. -/
structure LCap (n:Nat) (x:Ln):Prop where
 a:x.s0.joined ≤ n
 b:x.s1.joined ≤ n
 t:x.now ≤ n
theorem LCap.le {n m:Nat} {x:Ln} (h:LCap n x) (k:n ≤ m):LCap m x:=⟨Nat.le_trans h.a k,Nat.le_trans h.b k,Nat.le_trans h.t k⟩
theorem LCap.new (n:Nat) (c:Cfg):LCap n (newL c):=⟨Nat.zero_le _,Nat.zero_le _,Nat.zero_le _⟩
theorem LCap.tick {n:Nat} {x:Ln} (h:LCap n x):LCap (n + 1) (tick x):=⟨by show (did0 x).1.joined ≤ _; unfold did0; rw [one_joined]; have:=h.a; omega,by show (did1 x).1.joined ≤ _; unfold did1; rw [one_joined]; have:=h.b; omega,Nat.succ_le_succ h.t⟩
theorem LCap.submit {n:Nat} {x:Ln} (h:LCap n x) (st:Int) (m:Msg):LCap (n + 1) (submitL x st m):=by
 have h':=h.le (Nat.le_succ n)
 unfold submitL
 split
 ·split
  ·exact ⟨Nat.succ_le_succ h.a,h'.b,h'.t⟩
  ·exact ⟨h'.a,Nat.succ_le_succ h.b,h'.t⟩
 ·exact h'
theorem LCap.busy {n:Nat} {x:Ln} (h:LCap n x) (st:Int) (on:Bool):LCap n (busyL x st on):=by
 unfold busyL
 split
 ·exact ⟨h.a,h.b,h.t⟩
 ·split <;> exact ⟨h.a,h.b,h.t⟩
theorem LCap.fault {n:Nat} {x:Ln} (h:LCap n x) (k p v:Int):LCap n (faultL x k p v):=by
 unfold faultL
 split
 ·exact ⟨h.a,h.b,h.t⟩
 ·split <;> exact ⟨h.a,h.b,h.t⟩
/-- All that is asked of a line. -/
structure LFit (n:Nat) (x:Ln):Prop where
 g:LGood x
 r:LGr x
 c:LCap n x
theorem LFit.le {n m:Nat} {x:Ln} (h:LFit n x) (k:n ≤ m):LFit m x:=⟨h.g,h.r,h.c.le k⟩
theorem LFit.new {c:Cfg} (hc:c.Ok) (n:Nat):LFit n (newL c):=⟨LGood.new hc,LGr.new c,LCap.new n c⟩
theorem LFit.tick {n:Nat} {x:Ln} (h:LFit n x):LFit (n + 1) (Mod.tick x):=⟨h.g.tick,h.r.tick,h.c.tick⟩
theorem LFit.submit {n:Nat} {x:Ln} (h:LFit n x) (st:Int) (m:Msg):LFit (n + 1) (submitL x st m):=⟨h.g.submit st m,h.r.submit st m,h.c.submit st m⟩
theorem LFit.busy {n:Nat} {x:Ln} (h:LFit n x) (st:Int) (on:Bool):LFit n (busyL x st on):=⟨h.g.busy st on,h.r.busy st on,h.c.busy st on⟩
theorem LFit.fault {n:Nat} {x:Ln} (h:LFit n x) (k p v:Int):LFit n (faultL x k p v):=⟨h.g.fault k p v,h.r.fault k p v,h.c.fault k p v⟩
end Go.Proofs.YtlbpjcphhocdkaaGreat.Pst
namespace Go.Proofs.YtlbpjcphhocdkaaGreat
open Go.RowKit Go.Proofs.YtlbpjcphhocdkaaGreat.Mod Go.Proofs.YtlbpjcphhocdkaaGreat.Pst
/-- The document's line: both its stations; its blocks are of F. -/
structure RLn (w:World) (F:Nat → Prop) (yb:Nat) (c:Cfg) (now:Nat) (r0 r1:RS) (on0 on1:List UInt8):Prop where
 at':∃ (sl ob b0 b1:Nat) (F0 F1:Nat → Prop),RAt w F0 ⟨yb,sl,ob,b0,0⟩ c now r0 on0 ∧ RAt w F1 ⟨yb,sl,ob,b1,1⟩ c now r1 on1 ∧ b0 ≠ b1 ∧ ¬ F0 b1 ∧ ¬ F1 b0 ∧ (∀ g,F0 g → ¬ F1 g) ∧ (∀ g,F0 g → F g ∧ g < w.heap.size) ∧ (∀ g,F1 g → F g ∧ g < w.heap.size) ∧ F yb ∧ F sl ∧ F ob ∧ F b0 ∧ F b1
/-- What leaves its blocks alone leaves it alone. -/
theorem RAt.keep {w w':World} {F:Nat → Prop} {A:RAd} {c:Cfg} {now:Nat} {s:RS} {on:List UInt8} (h:RAt w F A c now s on) (hk:∀ g,g = A.yb ∨ g = A.sl ∨ g = A.ob ∨ g = A.sb ∨ F g → g < w.heap.size → w'.heap[g]? = w.heap[g]?):RAt w' F A c now s on:=by
 obtain ⟨v,hv,hq⟩:=h.que
 obtain ⟨g,hg,hG⟩:=h.got
 have e1:∀ j,w'.cell? ⟨A.yb,j,none⟩ = w.cell? ⟨A.yb,j,none⟩:=fun j=>World.cell?_of_block (hk _ (Or.inl rfl) h.lyb)
 have e2:∀ j,w'.cell? ⟨A.sl,j,none⟩ = w.cell? ⟨A.sl,j,none⟩:=fun j=>World.cell?_of_block (hk _ (Or.inr (Or.inl rfl)) h.lsl)
 have e3:∀ j,w'.cell? ⟨A.ob,j,none⟩ = w.cell? ⟨A.ob,j,none⟩:=fun j=>World.cell?_of_block (hk _ (Or.inr (Or.inr (Or.inl rfl))) h.lob)
 have e4:∀ j,w'.cell? ⟨A.sb,j,none⟩ = w.cell? ⟨A.sb,j,none⟩:=fun j=>World.cell?_of_block (hk _ (Or.inr (Or.inr (Or.inr (Or.inl rfl)))) h.lsb)
 have z3:∀ j,w'.frozen? ⟨A.ob,j,none⟩ = w.frozen? ⟨A.ob,j,none⟩:=fun j=>World.frozen?_of_block (hk _ (Or.inr (Or.inr (Or.inl rfl))) h.lob)
 have z4:∀ j,w'.frozen? ⟨A.sb,j,none⟩ = w.frozen? ⟨A.sb,j,none⟩:=fun j=>World.frozen?_of_block (hk _ (Or.inr (Or.inr (Or.inr (Or.inl rfl)))) h.lsb)
 have kF:∀ x,F x → x < w.heap.size → w'.heap[x]? = w.heap[x]?:=fun x hx hl=>hk x (Or.inr (Or.inr (Or.inr (Or.inr hx)))) hl
 exact ⟨h.cfg.keep fun i _=>e1 i,(e1 _).trans h.now,(e1 _).trans h.lst,(e1 _).trans h.onl,(e2 _).trans h.ptr,(e3 _).trans h.on,(e4 _).trans h.mode,(e4 _).trans h.busy,⟨v,(e4 _).trans hv,hq.keep kF⟩,(e4 _).trans h.joined,(e4 _).trans h.began,(e4 _).trans h.wait,(e4 _).trans h.ended,(e4 _).trans h.tries,(e4 _).trans h.off,(e4 _).trans h.free,(e4 _).trans h.block,(e4 _).trans h.count,⟨g,(e4 _).trans hg,hG.keep kF⟩,fun j=>(z3 j).trans (h.zob j),fun j=>(z4 j).trans (h.zsb j),h.ok⟩
theorem RLn.keep {w w':World} {F:Nat → Prop} {yb:Nat} {c:Cfg} {now:Nat} {r0 r1:RS} {on0 on1:List UInt8} (h:RLn w F yb c now r0 r1 on0 on1) (hs:w.heap.size ≤ w'.heap.size) (hk:∀ g,F g → g < w.heap.size → w'.heap[g]? = w.heap[g]?):RLn w' F yb c now r0 r1 on0 on1:=by
 obtain ⟨sl,ob,b0,b1,F0,F1,h0,h1,n,a1,a2,a3,a4,a5,f1,f2,f3,f4,f5⟩:=h.at'
 refine ⟨sl,ob,b0,b1,F0,F1,h0.keep ?_,h1.keep ?_,n,a1,a2,a3,fun g hg=>⟨(a4 g hg).1,Nat.lt_of_lt_of_le (a4 g hg).2 hs⟩,fun g hg=>⟨(a5 g hg).1,Nat.lt_of_lt_of_le (a5 g hg).2 hs⟩,f1,f2,f3,f4,f5⟩
 ·rintro g (rfl | rfl | rfl | rfl | hg) hl
  ·exact hk _ f1 hl
  ·exact hk _ f2 hl
  ·exact hk _ f3 hl
  ·exact hk _ f4 hl
  ·exact hk _ (a4 g hg).1 hl
 ·rintro g (rfl | rfl | rfl | rfl | hg) hl
  ·exact hk _ f1 hl
  ·exact hk _ f2 hl
  ·exact hk _ f3 hl
  ·exact hk _ f5 hl
  ·exact hk _ (a5 g hg).1 hl
theorem oneLess_any (n:Nat) (w:World) (hn:n ≤ 1000000000) :
  Calls Tryz.prog 103 #[.int .i64 n] w fun e w'=>e = .returned (.int .i64 (n - 1:Nat)) ∧ w' = w:=by
 rcases Nat.eq_zero_or_pos n with rfl | h
 ·go_enter Tryz.func103,Tryz.ntmps103
  go_wp2
  go_ret
  exact ⟨rfl,rfl⟩
 ·have h1:(0:Int) < (n:Int):=by omega
  have HE:Hid (((n - 1:Nat):Int) = (n:Int) - 1):=by unfold Hid; omega
  rw [HE.out]
  go_enter Tryz.func103,Tryz.ntmps103
  go_wp2
  go_ret
  exact ⟨rfl,rfl⟩
theorem expectedYes_any (n:Nat) (w:World) (hn:n ≤ 1000000000) :
  Calls Tryz.prog 124 #[.int .i64 n] w fun e w'=>e = .returned (.int .i64 (expectedYes n)) ∧ w' = w:=by
 unfold expectedYes
 by_cases h:n % 2 = 0
 ·have h':(n:Int) % 2 = 0:=by omega
  have h'':Int.tmod (n:Int) 2 = 0:=by rw [Int.tmod_eq_emod_of_nonneg (by omega)]; exact h'
  rw [if_pos h]
  go_enter Tryz.func124,Tryz.ntmps124
  go_wp2
  go_ret
  exact ⟨rfl,rfl⟩
 ·have h':(n:Int) % 2 = 1:=by omega
  have h'':Int.tmod (n:Int) 2 = 1:=by rw [Int.tmod_eq_emod_of_nonneg (by omega)]; exact h'
  rw [if_neg h]
  go_enter Tryz.func124,Tryz.ntmps124
  go_wp2
  go_ret
  exact ⟨rfl,rfl⟩
theorem otherYes_any (n:Nat) (w:World) (_hn:n ≤ 1000000000) :
  Calls Tryz.prog 144 #[.int .i64 n] w fun e w'=>e = .returned (.int .i64 (otherYes n)) ∧ w' = w:=by
 unfold otherYes
 by_cases h:n = 7
 ·subst h
  go_enter Tryz.func144,Tryz.ntmps144
  go_wp2
  go_ret
  exact ⟨rfl,rfl⟩
 ·have h':¬ (n:Int) = 7:=by omega
  rw [if_neg h]
  go_enter Tryz.func144,Tryz.ntmps144
  go_wp2
  go_ret
  exact ⟨rfl,rfl⟩
/-- What a method that answers nothing leaves. -/
def Does (w:World) (F:Nat → Prop) (b o:Nat) (s':PS) (e:Ending) (w':World):Prop:=e = .returned (.tuple #[]) ∧ StAt w' F b o s' ∧ Bes b o w w'
theorem beginWait_any (F:Nat → Prop) (b o:Nat) (s:PS) (c:Cfg) (w:World) (h:StAt w F b o s) :
  Calls Tryz.prog 127 #[.pointer (some ⟨b,o,none⟩),cfgV c] w fun e w'=>Does w F b o (beginWait c s) e w':=by
 have c0:=h.side
 have c5:=h.mode
 have c6:=h.wait
 have f6:=h.fz (o + 6)
 have hlt:=h.lt
 have H:=hide h
 clear h
 unfold cfgV
 by_cases m1:s.mode = 1
 ·by_cases s1:s.side = 1
  ·have HE:Hid (beginWait c s = { s with wait:=c.second }):=by simp [Hid,beginWait,wt,m1,s1]
   rw [m1] at c5
   rw [s1] at c0
   go_enter Tryz.func127,Tryz.ntmps127
   go_wp2
   go_end0
   rw [HE.out]
   exact ⟨rfl,((H.out.wait' c.first).wait' c.second).alloc _,((((Bes.refl b o w).set 6 (by omega) _).set 6 (by omega) _).alloc (by simpa using hlt) _)⟩
  ·have HE:Hid (beginWait c s = { s with wait:=c.first }):=by simp [Hid,beginWait,wt,m1,s1]
   have s1':¬ (s.side:Int) = 1:=by omega
   rw [m1] at c5
   go_enter Tryz.func127,Tryz.ntmps127
   go_wp2
   go_end0
   rw [HE.out]
   exact ⟨rfl,(H.out.wait' c.first).alloc _,(((Bes.refl b o w).set 6 (by omega) _).alloc (by simpa using hlt) _)⟩
 ·have m1':¬ (s.mode:Int) = 1:=by omega
  by_cases m2:s.mode = 2
  ·have HE:Hid (beginWait c s = { s with wait:=c.reply }):=by simp [Hid,beginWait,wt,m2]
   rw [m2] at c5
   go_enter Tryz.func127,Tryz.ntmps127
   go_wp2
   go_end0
   rw [HE.out]
   exact ⟨rfl,(H.out.wait' c.reply).alloc _,(((Bes.refl b o w).set 6 (by omega) _).alloc (by simpa using hlt) _)⟩
  ·have m2':¬ (s.mode:Int) = 2:=by omega
   by_cases m3:s.mode = 3
   ·have HE:Hid (beginWait c s = { s with wait:=c.lost }):=by simp [Hid,beginWait,wt,m3]
    rw [m3] at c5
    go_enter Tryz.func127,Tryz.ntmps127
    go_wp2
    go_end0
    rw [HE.out]
    exact ⟨rfl,(H.out.wait' c.lost).alloc _,(((Bes.refl b o w).set 6 (by omega) _).alloc (by simpa using hlt) _)⟩
   ·have m3':¬ (s.mode:Int) = 3:=by omega
    have HE:Hid (beginWait c s = s):=by simp [Hid,beginWait,wt,m1,m2,m3]
    go_enter Tryz.func127,Tryz.ntmps127
    go_wp2
    go_end0
    rw [HE.out]
    exact ⟨rfl,H.out.alloc (.cells (cfgCells c) 26),(Bes.refl b o w).alloc hlt _⟩
theorem shortS_is (k:Nat) (h:3 ≤ k ∧ k ≤ 9):shortS k = shortB k ∧ shortE k = 0:=by
 rcases (show k = 3 ∨ k = 4 ∨ k = 5 ∨ k = 6 ∨ k = 7 ∨ k = 8 ∨ k = 9 by omega) with rfl | rfl | rfl | rfl | rfl | rfl | rfl <;> exact ⟨by decide,by decide⟩
theorem putShort_any (F:Nat → Prop) (b o:Nat) (s:PS) (k:Nat) (w:World) (h:StAt w F b o s) (hk:3 ≤ k ∧ k ≤ 9) :
  Calls Tryz.prog 129 #[.pointer (some ⟨b,o,none⟩),.int .i64 k] w fun e w'=>Does w F b o (putShort k s) e w':=by
 have hlt:=h.lt
 have HS:=hide (shortS_is k hk)
 have H:=hide h
 clear h hk
 go_enter Tryz.func129,Tryz.ntmps129
 go_wp2_with fail
 refine (short_any k w).mono ?_
 rintro e w1 ⟨rfl,hb⟩
 rw [HS.out.1,HS.out.2]
 have H1:=hide (H.out.below hb)
 have HB:=hide ((Bes.refl b o w).below hlt hb)
 have c4:=H1.out.put
 have f4:=H1.out.fz (o + 4)
 clear hb
 go_wp2
 go_end0
 exact ⟨rfl,H1.out.put' _,HB.out.set 4 (by omega) _⟩
theorem becomeIdle_any (F:Nat → Prop) (b o:Nat) (s:PS) (w:World) (h:StAt w F b o s) :
  Calls Tryz.prog 131 #[.pointer (some ⟨b,o,none⟩)] w fun e w'=>Does w F b o (becomeIdle s) e w':=by
 have c5:=h.mode
 have c6:=h.wait
 have c8:=h.tries
 have c9:=h.off
 have c10:=h.free
 have c11:=h.block
 have c12:=h.head
 have c13:=h.text
 have c14:=h.yes
 have f5:=h.fz (o + 5)
 have f6:=h.fz (o + 6)
 have f8:=h.fz (o + 8)
 have f9:=h.fz (o + 9)
 have f10:=h.fz (o + 10)
 have f11:=h.fz (o + 11)
 have f12:=h.fz (o + 12)
 have f13:=h.fz (o + 13)
 have f14:=h.fz (o + 14)
 have hlt:=h.lt
 have H:=hide h
 clear h
 go_enter Tryz.func131,Tryz.ntmps131
 go_wp2
 go_end0
 have k:=((((((((H.out.mode' 0).wait' 0).tries' 0).off' 0).free' false).block' 0).head' []).text' []).yes' 0
 exact ⟨rfl,k,((((((((((Bes.refl b o w).set 5 (by omega) _).set 6 (by omega) _).set 8 (by omega) _).set 9 (by omega) _).set 10 (by omega) _).set 11 (by omega) _).set 12 (by omega) _).set 13 (by omega) _).set 14 (by omega) _)⟩
theorem answer_any (F:Nat → Prop) (b o:Nat) (s:PS) (c:Cfg) (w:World) (h:StAt w F b o s) :
  Calls Tryz.prog 122 #[.pointer (some ⟨b,o,none⟩),cfgV c] w fun e w'=>Does w F b o (answer c s) e w':=by
 have hlt:=h.lt
 have hne:b ≠ w.heap.size:=by omega
 have H:=hide (h.alloc (.cells (cfgCells c) 26))
 have HC:=hide (CfgAt.new w c)
 have HB:=hide ((Bes.refl b o w).alloc hlt (.cells (cfgCells c) 26))
 clear h
 unfold cfgV
 cases hb:s.busy
 ·have HE:Hid (answer c s = beginWait c (putShort 7 { becomeIdle s with mode:=3,yes:=7 })):=by simp [Hid,answer,hb]
  go_enter Tryz.func122,Tryz.ntmps122
  go_wp2_with fail
  refine (becomeIdle_any F b o s _ H.out).mono ?_
  rintro e w1 ⟨rfl,h1,b1⟩
  have C1:=hide (HC.out.bes b1 hne)
  have B1:=hide (HB.out.trans b1)
  have c3:=h1.busy
  have c5:=h1.mode
  have c14:=h1.yes
  have f5:=h1.fz (o + 5)
  have f14:=h1.fz (o + 14)
  have H1:=hide h1
  simp only [becomeIdle] at c3 c5 c14
  rw [hb] at c3
  clear h1 b1
  go_wp2_with fail
  refine (putShort_any F b o { becomeIdle s with mode:=3,yes:=7 } 7 _ ((H1.out.mode' 3).yes' 7) (by omega)).mono ?_
  rintro e w2 ⟨rfl,h2,b2⟩
  have C2:=hide ((C1.out.bes ((Bes.refl b o w1).set 5 (by omega) _) hne).bes ((Bes.refl b o _).set 14 (by omega) _) hne |>.bes b2 hne)
  have B2:=hide ((((B1.out).set 5 (by omega) _).set 14 (by omega) _).trans b2)
  have H2:=hide h2
  obtain ⟨k0,k1,k2,k3,k4,k5,k6,k7,k8,k9⟩:=C2.out.all
  clear h2 b2 c3 c5 c14 f5 f14
  go_wp2_with fail
  refine (beginWait_any F b o _ c _ H2.out).mono ?_
  rintro e w3 ⟨rfl,h3,b3⟩
  go_wp2
  go_end0
  rw [HE.out]
  exact ⟨rfl,h3,B2.out.trans b3⟩
 ·have HE:Hid (answer c s = putShort 9 (becomeIdle s)):=by simp [Hid,answer,hb]
  go_enter Tryz.func122,Tryz.ntmps122
  go_wp2_with fail
  refine (becomeIdle_any F b o s _ H.out).mono ?_
  rintro e w1 ⟨rfl,h1,b1⟩
  have B1:=hide (HB.out.trans b1)
  have c3:=h1.busy
  have H1:=hide h1
  simp only [becomeIdle] at c3
  rw [hb] at c3
  clear h1 b1
  go_wp2_with fail
  refine (putShort_any F b o _ 9 _ H1.out (by omega)).mono ?_
  rintro e w2 ⟨rfl,h2,b2⟩
  go_wp2
  go_end0
  rw [HE.out]
  exact ⟨rfl,h2,B1.out.trans b2⟩
theorem bid_any (F:Nat → Prop) (b o:Nat) (s:PS) (c:Cfg) (w:World) (h:StAt w F b o s) :
  Calls Tryz.prog 132 #[.pointer (some ⟨b,o,none⟩),cfgV c] w fun e w'=>Does w F b o (bid c s) e w':=by
 have hlt:=h.lt
 have hne:b ≠ w.heap.size:=by omega
 have H:=hide h
 have HC:=hide (CfgAt.new (((((w.setCell ⟨b,o + 5,none⟩ (.int .i64 1)).setCell ⟨b,o + 8,none⟩ (.int .i64 1)).setCell ⟨b,o + 9,none⟩ (.int .i64 0)).setCell ⟨b,o + 10,none⟩ (.bool false)).setCell ⟨b,o + 11,none⟩ (.int .i64 0)) c)
 have HB:=hide ((((((Bes.refl b o w).set 5 (by omega) (.int .i64 1)).set 8 (by omega) (.int .i64 1)).set 9 (by omega) (.int .i64 0)).set 10 (by omega) (.bool false)).set 11 (by omega) (.int .i64 0) |>.alloc (by simpa using hlt) (.cells (cfgCells c) 26))
 have H0:=hide ((((((h.mode' 1).tries' 1).off' 0).free' false).block' 0).alloc (.cells (cfgCells c) 26))
 have c5:=h.mode
 have c8:=h.tries
 have c9:=h.off
 have c10:=h.free
 have c11:=h.block
 have f5:=h.fz (o + 5)
 have f8:=h.fz (o + 8)
 have f9:=h.fz (o + 9)
 have f10:=h.fz (o + 10)
 have f11:=h.fz (o + 11)
 clear h
 unfold cfgV
 go_enter Tryz.func132,Tryz.ntmps132
 go_wp2_with fail
 refine (putShort_any F b o _ 3 _ H0.out (by omega)).mono ?_
 rintro e w1 ⟨rfl,h1,b1⟩
 have C1:=hide (HC.out.bes b1 (by simpa using hne))
 have B1:=hide (HB.out.trans b1)
 have H1:=hide h1
 obtain ⟨k0,k1,k2,k3,k4,k5,k6,k7,k8,k9⟩:=C1.out.all
 simp only [World.size_setCell] at k0 k1 k2 k3 k4 k5 k6 k7 k8 k9
 clear h1 b1 c5 c8 c9 c10 c11 f5 f8 f9 f10 f11
 go_wp2_with fail
 refine (beginWait_any F b o _ c _ H1.out).mono ?_
 rintro e w2 ⟨rfl,h2,b2⟩
 go_wp2
 go_end0
 exact ⟨rfl,h2,B1.out.trans b2⟩
theorem QAt.some {w:World} {F:Nat → Prop} {v:Value} {l:List Msg} (h:QAt w F v l) (hl:l ≠ []) :
  ∃ g cap,v = .slice (some ⟨g,0,none⟩) l.length cap ∧ l.length ≤ cap ∧ F g ∧ g < w.heap.size ∧ ∀ i,i < l.length → w.cell? ⟨g,i * 3,none⟩ = some (.string ⟨(l.getD i noMsg).head.toArray⟩) ∧ w.cell? ⟨g,i * 3 + 1,none⟩ = some (.string ⟨(l.getD i noMsg).text.toArray⟩) ∧ w.cell? ⟨g,i * 3 + 2,none⟩ = some (.bool (l.getD i noMsg).clear):=by
 rcases h.1.2 with ⟨_,h0⟩ | ⟨g,cap,cur,rfl,hB,hh,h1,h2,h3,h4⟩
 ·exact absurd (List.eq_nil_of_length_eq_zero h0) hl
 ·refine ⟨g,cap,rfl,h1,h.2 g rfl,lt_of_block hh,fun i hi=>?_⟩
  have e:∀ k,k < 3 → w.cell? ⟨g,i * 3 + k,none⟩ = (msgCells (l.getD i noMsg))[k]?:=by
   intro k hk
   have:=World.ownsRow.cellAt h.1 (i * 3 + k) (by omega)
   rw [this,mcells_get l i k hk hi]
  exact ⟨e 0 (by omega),e 1 (by omega),e 2 (by omega)⟩
theorem results_msg {fn:Func} {k:Tmp} (hf:fn.results = #[.cell k 60]) (tmps:Array Value) (w:World) (g:Nat) {h t c:Value} (ht:tmps.getD k undef = .pointer (some ⟨g,0,none⟩))
  (c0:w.cell? ⟨g,0,none⟩ = some h) (c1:w.cell? ⟨g,1,none⟩ = some t) (c2:w.cell? ⟨g,2,none⟩ = some c) :
  (results fn tmps).run Tryz.prog w = .ok (.agg #[h,t,c]) w:=by
 simp only [Array.getD_eq_getD_getElem?] at ht
 simp [results,hf,ht,go_sem,c0,c1,c2]
theorem message_any (F:Nat → Prop) (b o:Nat) (s:PS) (w:World) (h:StAt w F b o s) (hq:s.q ≠ []) (hn:s.q.length ≤ 100) :
  Calls Tryz.prog 141 #[.pointer (some ⟨b,o,none⟩)] w fun e w'=>e = .returned (msgV (message s)) ∧ Below w.heap.size w w':=by
 have hlt:=h.lt
 obtain ⟨v,c1,hv⟩:=h.que
 obtain ⟨g,cap,rfl,_,_,hg,hc⟩:=hv.some hq
 have hpos:0 < s.q.length:=List.length_pos_iff.2 hq
 obtain ⟨d0,d1,d2⟩:=hc 0 hpos
 have HM:Hid (s.q.getD 0 noMsg = message s):=by
  unfold Hid message
  cases hs:s.q with
  | nil=>exact absurd hs hq
  | cons a l=>rfl
 rw [HM.out] at d0 d1 d2
 simp only [Nat.zero_mul,Nat.zero_add] at d0 d1 d2
 generalize message s = m at *
 generalize hL:s.q.length = L at *
 clear hc hv h HM hq
 have hz:¬ (L:Int) = 0:=by omega
 go_enter Tryz.func141,Tryz.ntmps141
 go_wp2
 (try simp only [Exit.inBlock,Exit.then])
 refine bodyPost_ret (results_msg rfl _ _ w.heap.size rfl (h:=.string ⟨m.head.toArray⟩) (t:=.string ⟨m.text.toArray⟩) (c:=.bool m.clear) ?_ ?_ ?_) rfl ?_
 ·simp
 ·simp
 ·simp
 ·exact ⟨rfl,(Below.refl _ _).alloc (Nat.le_refl _) _⟩
theorem number_any (F:Nat → Prop) (b o:Nat) (s:PS) (w:World) (h:StAt w F b o s) (hj:s.q.length ≤ s.joined) (hm:s.joined ≤ 1000000000000000) :
  Calls Tryz.prog 151 #[.pointer (some ⟨b,o,none⟩)] w fun e w'=>e = .returned (.int .i64 (number s:Nat)) ∧ ∃ n,w' = w.drewN n:=by
 have hlt:=h.lt
 have c2:=h.joined
 obtain ⟨v,c1,hv⟩:=h.que
 obtain ⟨a,cap,rfl⟩:=hv.form
 have HE:Hid (((number s:Nat):Int) = (s.joined:Int) - (s.q.length:Int) + 1):=by unfold Hid number; omega
 rw [HE.out]
 generalize s.joined = J at *
 generalize hL:s.q.length = L at *
 clear hv h HE
 go_enter Tryz.func151,Tryz.ntmps151
 go_wp2
 go_quiet (fail)
 go_wp2
 go_ret
 exact ⟨rfl,_,rfl⟩
theorem Tryz.infoMsg:(Tryz.prog.info? 60).map (fun i=>(i.zero,i.size,i.bytes)) = some (some (.agg #[.string ⟨#[]⟩,.string ⟨#[]⟩,.bool false]),3,40):=by kernel_rfl
/-- A list of messages among the blocks from B on. -/
def OwnM (w:World) (B:Nat) (v:Value) (l:List Msg):Prop:=w.ownsRow B 60 3 v l.length (mcells l)
theorem cells_new (W:World) (cs:Array Value) (t:TypeId):∀ j u,cs.toList[j]? = some u → (W.alloc (.cells cs t)).cell? ((⟨W.heap.size,0,none⟩:Addr).add j) = some u:=by
 intro j u hu
 have:(⟨W.heap.size,0,none⟩:Addr).add j = ⟨W.heap.size,j,none⟩:=by simp [Addr.add_lit]
 rw [this,World.cell?_alloc_new]
 simpa using hu
section
variable {ops:Array Oper} {rest:List Oper} {o:Oper} {a:Act} {Q:Exit → Act → World → Prop}
theorem app_msg (W:World) (m:Msg) (hgd:o.guard = none) (sl x:Operand)
  (ho:o.op = .call { callee:=.builtin .append,args:=#[sl,x],argTypes:=#[65,65] })
  (B:Nat) (v:Value) (l:List Msg) (g cp:Nat) (hs:a.eval sl = v) (hx:a.eval x = .slice (some ⟨g,0,none⟩) 1 cp) (hg0:g = W.heap.size) (hown:OwnM W B v l)
  (hlen:l.length ≤ 1000000000000) (w0:World) (hbel:Below B w0 W) (hB:B ≤ W.heap.size)
  (h:∀ v' W',OwnM W' B v' (l ++ [m]) → Below B w0 W' → B ≤ W'.heap.size → wpList Tryz.prog ops Q rest (a.put o.dst v') W') :
  wpList Tryz.prog ops Q (o::rest) a (W.alloc (.cells #[.string ⟨m.head.toArray⟩,.string ⟨m.text.toArray⟩,.bool m.clear] 60)):=by
 obtain ⟨i0,hi,hz0,hz1,hz2⟩:=info_parts Tryz.infoMsg
 subst hg0
 refine wpList_append_own _ hgd sl x 65 ho B 60 i0 _ 3 40 Tryz.underlying65 hi hz0 hz1 hz2 rfl (by decide) v l.length (mcells l) hs (World.ownsRow.alloc hown _) ⟨W.heap.size,0,none⟩ 1 cp (msgCells m) hx rfl
  (cells_new _ _ _) (by intro u hu; simp [msgCells] at hu; rcases hu with rfl | rfl | rfl <;> rfl) (by unfold maxLen; omega) (by omega) (by simp; omega) ?_
 intro v' W' ho' hg _
 have hlt:∀ k,v.ownBlock = some k → B ≤ k:=fun k hk=>(World.ownsRow.lt hown k hk).1
 refine h v' W' ?_ ((hbel.alloc hB _).grown hg (by simp; omega) hlt) (by have:=hg.size; simp at this; omega)
 unfold OwnM
 rw [mcells_append,List.length_append,show mcells [m] = msgCells m by simp [mcells]]
 exact ho'
end
theorem take_tail_succ (l:List Msg) (k:Nat) (h:k + 1 < l.length):l.tail.take (k + 1) = l.tail.take k ++ [l.getD (k + 1) noMsg]:=by
 cases l with
 | nil=>simp at h
 | cons a l =>
  have h':k < l.length:=by simpa using h
  show l.take (k + 1) = l.take k ++ [l.getD k noMsg]
  rw [List.take_add_one,List.getElem?_eq_getElem h',List.getD,List.getElem?_eq_getElem h']
  rfl
theorem OwnM.form {w:World} {B:Nat} {v:Value} {l:List Msg} (h:OwnM w B v l):∃ a cap,v = .slice a l.length cap:=by
 rcases h.2 with ⟨rfl,h0⟩ | ⟨g,cap,cur,rfl,_⟩
 ·exact ⟨none,0,by rw [h0]⟩
 ·exact ⟨_,cap,rfl⟩
theorem OwnM.q {w u:World} {v:Value} {l:List Msg} (h:OwnM w u.heap.size v l):QAt w (New u) v l:=by
 refine ⟨⟨h.1,?_⟩,fun g hg=>(World.ownsRow.lt h g hg).1⟩
 rcases h.2 with h2 | ⟨g,cap,cur,hv,_,r⟩
 ·exact Or.inl h2
 ·exact Or.inr ⟨g,cap,cur,hv,Nat.zero_le _,r⟩
set_option maxRecDepth 1000000 in
theorem leave_any (F:Nat → Prop) (b o:Nat) (s:PS) (w:World) (h:StAt w F b o s) (hn:s.q.length ≤ 100) :
  Calls Tryz.prog 152 #[.pointer (some ⟨b,o,none⟩)] w fun e w'=>Does w (New w) b o (leave s) e w':=by
 have hlt:=h.lt
 obtain ⟨v,c1,hv⟩:=h.que
 have f1:=h.fz (o + 1)
 have HV:=hide hv
 obtain ⟨a,cap,rfl⟩:=hv.form
 have H:=hide h
 generalize hL:s.q.length = L at *
 have HL:=hide hL
 clear hv h hL
 go_enter Tryz.func152,Tryz.ntmps152
 go_wp2
 go_loopw [2,3] (fun x i wr=>∃ k:Nat,(k = 0 ∨ k + 1 ≤ L) ∧ i = .int .i64 (k + 1:Nat) ∧ OwnM wr w.heap.size x (s.q.tail.take k) ∧ Below w.heap.size w wr) (fun _ i _=>L + 1 - (intOf i).toNat)
 case atStart =>
  refine ⟨0,Or.inl rfl,rfl,?_,(Below.refl _ _).alloc (Nat.le_refl _) _⟩
  exact World.ownsRow_lit w #[] 0 (Nat.le_refl _) (by unfold maxLen; omega) rfl
 case round =>
  obtain ⟨k,hk,rfl,hown,hbel⟩:=hrel
  have d1:=(hbel.cell (p:=⟨b,o + 1,none⟩) hlt).trans c1
  by_cases hlt2:k + 1 < L
  ·obtain ⟨g,cap',e,_,_,hg,hc⟩:=HV.out.some (by intro e; rw [e] at HL; have:=HL.out; simp at this; omega)
   simp only [Value.slice.injEq] at e
   obtain ⟨rfl,_,rfl⟩:=e
   obtain ⟨z0,z1,z2⟩:=hc (k + 1) (by rw [HL.out]; exact hlt2)
   rw [← hbel.cell (p:=⟨g,_,none⟩) hg] at z0 z1 z2
   have HT:=hide (take_tail_succ s.q k (by rw [HL.out]; exact hlt2))
   generalize s.q.getD (k + 1) noMsg = m at *
   have hlt3:((k + 1:Nat):Int) < (L:Int):=by omega
   have HBel:=hide hbel
   have hl1:(s.q.tail.take k).length ≤ 1000000000000:=by simp; omega
   have hB:=hbel.size
   clear hc
   go_wp2_with (at_builtin; refine app_msg _ m rfl (.tmp 14) (.tmp 22) rfl w.heap.size _ _ _ 1 rfl rfl rfl hown hl1 w HBel.out hB ?_; intro x' w' hown' hbel' hB')
   go_roundw
   case rel=>exact ⟨k + 1,Or.inr (by omega),by go_num,by rw [HT.out]; exact hown',hbel'⟩
   case measure=>simp [intOf]; omega
  ·have hlt3:¬ ((k + 1:Nat):Int) < (L:Int):=by omega
   have HT:Hid (s.q.tail.take k = s.q.tail):=List.take_of_length_le (by rw [List.length_tail,HL.out]; omega)
   rw [HT.out] at hown
   obtain ⟨a2,cap2,rfl⟩:=hown.form
   have HQ:=hide hown.q
   have HB:=hide ((Bes.refl b o w).below hlt hbel)
   have H2:=hide (H.out.below hbel)
   have g1:=(hbel.frozen (p:=⟨b,o + 1,none⟩) hlt).trans f1
   have hN:¬ New w b:=fun x=>by unfold New at x; omega
   generalize hz2:s.q.tail.length = z2 at *
   clear hown hbel
   go_wp2
   go_end0
   exact ⟨rfl,H2.out.que' _ _ HQ.out hN,HB.out.set 1 (by omega) _⟩
def evV:Option Ev → Value
 | none=>.agg #[.int .i64 0,.int .i64 0,.int .i64 0,.string ⟨#[]⟩,.string ⟨#[]⟩,.bool false]
 | some e=>.agg #[.int .i64 e.kind,.int .i64 e.station,.int .i64 e.number,.string ⟨e.msg.head.toArray⟩,.string ⟨e.msg.text.toArray⟩,.bool e.msg.clear]
/-- What a method that answers an event leaves. -/
def Tells (w:World) (F:Nat → Prop) (b o:Nat) (r:PS × Option Ev) (e:Ending) (w':World):Prop:=e = .returned (evV r.2) ∧ StAt w' (Plus F w) b o r.1 ∧ Bes b o w w'
/-- An event in memory. -/
def EvAt (w:World) (g:Nat) (v0 v1 v2 v3 v4 v5:Value):Prop:=w.heap[g]? = some (.cells #[v0,v1,v2,v3,v4,v5] 62 (0,0))
section
variable {w w':World} {g:Nat} {v0 v1 v2 v3 v4 v5:Value}
theorem EvAt.lt (h:EvAt w g v0 v1 v2 v3 v4 v5):g < w.heap.size:=lt_of_block h
theorem EvAt.cell (h:EvAt w g v0 v1 v2 v3 v4 v5):w.cell? ⟨g,0,none⟩ = some v0 ∧ w.cell? ⟨g,1,none⟩ = some v1 ∧ w.cell? ⟨g,2,none⟩ = some v2 ∧ w.cell? ⟨g,3,none⟩ = some v3 ∧ w.cell? ⟨g,4,none⟩ = some v4 ∧ w.cell? ⟨g,5,none⟩ = some v5:=by
 unfold EvAt at h; simp [World.cell?,h]
theorem EvAt.free (h:EvAt w g v0 v1 v2 v3 v4 v5) (i:Nat):w.frozen? ⟨g,i,none⟩ = false:=Go.Joins.unfrozen_of_block h i
theorem EvAt.below (h:EvAt w g v0 v1 v2 v3 v4 v5) (k:Below w.heap.size w w'):EvAt w' g v0 v1 v2 v3 v4 v5:=(k.block g h.lt).trans h
theorem EvAt.bes {b o:Nat} (h:EvAt w g v0 v1 v2 v3 v4 v5) (k:Bes b o w w') (hb:b ≠ g):EvAt w' g v0 v1 v2 v3 v4 v5:=(k.block g h.lt hb.symm).trans h
theorem EvAt.all {u0 u1 u2 u3 u4 u5:Value} (h:EvAt w g v0 v1 v2 v3 v4 v5) :
  EvAt ((((((w.setCell ⟨g,0,none⟩ u0).setCell ⟨g,1,none⟩ u1).setCell ⟨g,2,none⟩ u2).setCell ⟨g,3,none⟩ u3).setCell ⟨g,4,none⟩ u4).setCell ⟨g,5,none⟩ u5) g u0 u1 u2 u3 u4 u5:=by
 have k0:EvAt (w.setCell ⟨g,0,none⟩ u0) g u0 v1 v2 v3 v4 v5:=Go.Joins.block_setCell (i:=0) h u0
 have k1:EvAt ((w.setCell ⟨g,0,none⟩ u0).setCell ⟨g,1,none⟩ u1) g u0 u1 v2 v3 v4 v5:=Go.Joins.block_setCell (i:=1) k0 u1
 have k2:EvAt (((w.setCell ⟨g,0,none⟩ u0).setCell ⟨g,1,none⟩ u1).setCell ⟨g,2,none⟩ u2) g u0 u1 u2 v3 v4 v5:=Go.Joins.block_setCell (i:=2) k1 u2
 have k3:EvAt ((((w.setCell ⟨g,0,none⟩ u0).setCell ⟨g,1,none⟩ u1).setCell ⟨g,2,none⟩ u2).setCell ⟨g,3,none⟩ u3) g u0 u1 u2 u3 v4 v5:=Go.Joins.block_setCell (i:=3) k2 u3
 have k4:EvAt (((((w.setCell ⟨g,0,none⟩ u0).setCell ⟨g,1,none⟩ u1).setCell ⟨g,2,none⟩ u2).setCell ⟨g,3,none⟩ u3).setCell ⟨g,4,none⟩ u4) g u0 u1 u2 u3 u4 v5:=Go.Joins.block_setCell (i:=4) k3 u4
 exact Go.Joins.block_setCell (i:=5) k4 u5
end
theorem Bes.ev {b o g:Nat} {u w:World} (h:Bes b o u w) (hg:u.heap.size ≤ g) (hb:b < u.heap.size) (u0 u1 u2 u3 u4 u5:Value) :
  Bes b o u ((((((w.setCell ⟨g,0,none⟩ u0).setCell ⟨g,1,none⟩ u1).setCell ⟨g,2,none⟩ u2).setCell ⟨g,3,none⟩ u3).setCell ⟨g,4,none⟩ u4).setCell ⟨g,5,none⟩ u5):=by
 have one:∀ (x:World) (k:Nat) (v:Value),Bes b o u x → Bes b o u (x.setCell ⟨g,k,none⟩ v):=by
  intro x k v hx
  have hne:g ≠ b:=by omega
  refine ⟨hx.os,hx.tape,hx.output,by simpa using hx.size,fun i hi hn=>?_,fun j hj=>?_,fun j=>?_⟩
  ·rw [Below.heap_setCell _ _ _ _ (fun e=>by simp at e; omega)]; exact hx.block i hi hn
  ·rw [World.cell?_setCell_other _ _ _ _ (fun e=>hne (congrArg Addr.block e))]; exact hx.cell j hj
  ·rw [World.frozen?_setCell]; exact hx.froz j
 exact one _ _ _ (one _ _ _ (one _ _ _ (one _ _ _ (one _ _ _ (one _ _ _ h)))))
theorem StAt.ev {b o g:Nat} {w:World} {F:Nat → Prop} {s:PS} (h:StAt w F b o s) (hg:g ≠ b) (hF:∀ v,w.cell? ⟨b,o + 1,none⟩ = some v → v.ownBlock ≠ some g) (u0 u1 u2 u3 u4 u5:Value) :
  StAt ((((((w.setCell ⟨g,0,none⟩ u0).setCell ⟨g,1,none⟩ u1).setCell ⟨g,2,none⟩ u2).setCell ⟨g,3,none⟩ u3).setCell ⟨g,4,none⟩ u4).setCell ⟨g,5,none⟩ u5) F b o s:=by
 have one:∀ (x:World) (k:Nat) (v:Value),StAt x F b o s → (∀ v,x.cell? ⟨b,o + 1,none⟩ = some v → v.ownBlock ≠ some g) → StAt (x.setCell ⟨g,k,none⟩ v) F b o s ∧ (∀ y,(x.setCell ⟨g,k,none⟩ v).cell? ⟨b,o + 1,none⟩ = some y → y.ownBlock ≠ some g):=by
  intro x k v hx hk
  have hc:∀ j,(x.setCell ⟨g,k,none⟩ v).cell? ⟨b,j,none⟩ = x.cell? ⟨b,j,none⟩:=fun j=>World.cell?_setCell_other _ _ _ _ (fun e=>hg (congrArg Addr.block e))
  obtain ⟨q,hq,hQ⟩:=hx.que
  have hgq:=hk q hq
  refine ⟨⟨(hc _).trans hx.side,⟨q,(hc _).trans hq,?_⟩,(hc _).trans hx.joined,(hc _).trans hx.busy,(hc _).trans hx.put,(hc _).trans hx.mode,(hc _).trans hx.wait,(hc _).trans hx.rest,(hc _).trans hx.tries,(hc _).trans hx.off,(hc _).trans hx.free,(hc _).trans hx.block,(hc _).trans hx.head,(hc _).trans hx.text,(hc _).trans hx.yes,fun j=>by rw [World.frozen?_setCell]; exact hx.fz j,hx.nb⟩,fun y hy=>hk y ((hc _).symm.trans hy)⟩
  obtain ⟨⟨h1,h2⟩,h3⟩:=hQ
  refine ⟨⟨h1,?_⟩,h3⟩
  rcases h2 with h2 | ⟨gg,cap,cur,hv,hB,hh,r⟩
  ·exact Or.inl h2
  ·exact Or.inr ⟨gg,cap,cur,hv,hB,(Below.heap_setCell _ _ _ _ (fun e=>hgq (by rw [hv,e]; rfl))).trans hh,r⟩
 have a0:=one _ 0 u0 h hF
 have a1:=one _ 1 u1 a0.1 a0.2
 have a2:=one _ 2 u2 a1.1 a1.2
 have a3:=one _ 3 u3 a2.1 a2.2
 have a4:=one _ 4 u4 a3.1 a3.2
 exact (one _ 5 u5 a4.1 a4.2).1
theorem results_ev {fn:Func} {k:Tmp} (hf:fn.results = #[.cell k 62]) (tmps:Array Value) (w:World) (g:Nat) {v0 v1 v2 v3 v4 v5:Value} (ht:tmps.getD k undef = .pointer (some ⟨g,0,none⟩)) (h:EvAt w g v0 v1 v2 v3 v4 v5) :
  (results fn tmps).run Tryz.prog w = .ok (.agg #[v0,v1,v2,v3,v4,v5]) w:=by
 obtain ⟨c0,c1,c2,c3,c4,c5⟩:=h.cell
 simp only [Array.getD_eq_getD_getElem?] at ht
 simp [results,hf,ht,go_sem,c0,c1,c2,c3,c4,c5]
theorem Below.setN {w W:World} (h:Below w.heap.size w W) {g:Nat} (hg:w.heap.size ≤ g) (k:Nat) (v:Value):Below w.heap.size w (W.setCell ⟨g,k,none⟩ v):=h.setCell hg v
/-- The world in which finish's event has been made. -/
theorem finish_region (F:Nat → Prop) (b o:Nat) (s:PS) (w W:World) (h:StAt w F b o s) (hb:Below w.heap.size w W) (c:w.cell? ⟨b,o,none⟩ = some (.int .i64 s.side)):Below w.heap.size w W ∧ W.cell? ⟨b,o,none⟩ = some (.int .i64 s.side) :=
 ⟨hb,(hb.cell (p:=⟨b,o,none⟩) h.lt).trans c⟩
def zeroEv:Array Value:=#[.int .i64 0,.int .i64 0,.int .i64 0,.string ⟨#[]⟩,.string ⟨#[]⟩,.bool false]
/-- The event made,in the two ways. -/
structure FinW (w W:World) (v0 v1 v2:Value):Prop where
 bel:Below w.heap.size w W
 ev0:EvAt W w.heap.size (.int .i64 0) (.int .i64 0) (.int .i64 0) (.string ⟨#[]⟩) (.string ⟨#[]⟩) (.bool false)
 ev1:EvAt W (w.heap.size + 1) v0 v1 v2 (.string ⟨#[]⟩) (.string ⟨#[]⟩) (.bool false)
theorem fin1 (w:World) (n:Nat) (v0 v1 v2:Value):FinW w (((w.alloc (.cells zeroEv 62)).drewN n).alloc (.cells #[v0,v1,v2,.string ⟨#[]⟩,.string ⟨#[]⟩,.bool false] 62)) v0 v1 v2:=by
 have hz:((w.alloc (.cells zeroEv 62)).drewN n).heap.size = w.heap.size + 1:=by simp [World.drewN]
 have e0:EvAt ((w.alloc (.cells zeroEv 62)).drewN n) w.heap.size (.int .i64 0) (.int .i64 0) (.int .i64 0) (.string ⟨#[]⟩) (.string ⟨#[]⟩) (.bool false):=heap_alloc_new w _
 refine ⟨Below.allocN (below_drewN (Below.allocN (Below.refl _ _) _) n) _,e0.below ((Below.refl _ _).alloc (Nat.le_refl _) _),?_⟩
 have:=heap_alloc_new ((w.alloc (.cells zeroEv 62)).drewN n) (.cells #[v0,v1,v2,.string ⟨#[]⟩,.string ⟨#[]⟩,.bool false] 62)
 rw [hz] at this
 exact this
theorem fin2 (w:World) (n:Nat) (v0 v1 v2:Value):FinW w ((((((((w.alloc (.cells zeroEv 62)).alloc (.cells zeroEv 62)).drewN n).setCell ⟨w.heap.size + 1,0,none⟩ v0).setCell ⟨w.heap.size + 1,1,none⟩ v1).setCell ⟨w.heap.size + 1,2,none⟩ v2).setCell ⟨w.heap.size + 1,3,none⟩ (.string ⟨#[]⟩)).setCell ⟨w.heap.size + 1,4,none⟩ (.string ⟨#[]⟩) |>.setCell ⟨w.heap.size + 1,5,none⟩ (.bool false)) v0 v1 v2:=by
 have hz:(w.alloc (.cells zeroEv 62)).heap.size = w.heap.size + 1:=by simp
 have e0:EvAt (w.alloc (.cells zeroEv 62)) w.heap.size (.int .i64 0) (.int .i64 0) (.int .i64 0) (.string ⟨#[]⟩) (.string ⟨#[]⟩) (.bool false):=heap_alloc_new w _
 have e1:EvAt (((w.alloc (.cells zeroEv 62)).alloc (.cells zeroEv 62)).drewN n) (w.heap.size + 1) (.int .i64 0) (.int .i64 0) (.int .i64 0) (.string ⟨#[]⟩) (.string ⟨#[]⟩) (.bool false):=by
  have:=heap_alloc_new (w.alloc (.cells zeroEv 62)) (.cells zeroEv 62)
  rw [hz] at this
  exact this
 have hb:Below (w.alloc (.cells zeroEv 62)).heap.size (w.alloc (.cells zeroEv 62)) ((((((((w.alloc (.cells zeroEv 62)).alloc (.cells zeroEv 62)).drewN n).setCell ⟨w.heap.size + 1,0,none⟩ v0).setCell ⟨w.heap.size + 1,1,none⟩ v1).setCell ⟨w.heap.size + 1,2,none⟩ v2).setCell ⟨w.heap.size + 1,3,none⟩ (.string ⟨#[]⟩)).setCell ⟨w.heap.size + 1,4,none⟩ (.string ⟨#[]⟩) |>.setCell ⟨w.heap.size + 1,5,none⟩ (.bool false)):=by
  refine Below.setN (Below.setN (Below.setN (Below.setN (Below.setN (Below.setN (below_drewN (Below.allocN (Below.refl _ _) _) n) ?_ _ _) ?_ _ _) ?_ _ _) ?_ _ _) ?_ _ _) ?_ _ _ <;> simp
 exact ⟨below_step ((Below.refl _ _).alloc (Nat.le_refl _) _) hb,e0.below hb,e1.all⟩
set_option maxRecDepth 1000000 in
theorem finish_any (F:Nat → Prop) (b o:Nat) (s:PS) (k:Nat) (w:World) (h:StAt w F b o s) (hj:s.q.length ≤ s.joined) (hm:s.joined ≤ 1000000000000000) (hn:s.q.length ≤ 100) :
  Calls Tryz.prog 140 #[.pointer (some ⟨b,o,none⟩),.int .i64 k] w fun e w'=>Tells w F b o (finish k s) e w':=by
 have hlt:=h.lt
 have hne:b ≠ w.heap.size:=by omega
 have hne1:b ≠ w.heap.size + 1:=by omega
 have c0:=h.side
 have H:=hide h
 clear h
 go_enter Tryz.func140,Tryz.ntmps140
 go_wp2
 go_region_held3 (fun w'=>Below w.heap.size w w' ∧ w'.cell? ⟨b,o,none⟩ = some (.int .i64 s.side)) ((refine finish_region F b o s w _ H.out ?_ c0; repeat' (with_reducible (first | apply Below.drew | apply below_drewN | apply Below.allocN | (refine Below.setN ?_ (by simp) _ _) | exact Below.refl _ _))))
  (first | (go_at_call 151; refine (number_any F b o s _ (H.out.below ?_) hj hm).mono ?_; (repeat' (with_reducible (first | apply Below.drew | apply below_drewN | apply Below.allocN | (refine Below.setN ?_ (by simp) _ _) | exact Below.refl _ _))); rintro e w1 ⟨rfl,n1,rfl⟩))
 ·have hW:=fin1 w (1 + n1) (.int .i64 k) (.int .i64 s.side) (.int .i64 (number s:Nat))
  unfold zeroEv at hW
  generalize ((w.alloc (.cells #[.int .i64 0,.int .i64 0,.int .i64 0,.string ⟨#[]⟩,.string ⟨#[]⟩,.bool false] 62)).drewN (1 + n1)).alloc (.cells #[.int .i64 k,.int .i64 s.side,.int .i64 (number s:Nat),.string ⟨#[]⟩,.string ⟨#[]⟩,.bool false] 62) = W at *
  have HW:=hide hW
  have HS:=hide (H.out.below hW.bel)
  have HB:=hide ((Bes.refl b o w).below hlt hW.bel)
  have hz1:=hW.ev1.lt
  have c5:=HS.out.mode
  clear hW c0
  by_cases m2:s.mode = 2
  ·have HE:Hid (finish k s = ({ becomeIdle (leave (putShort 5 s)) with rest:=3 },some ⟨k,s.side,number s,noMsg⟩)):=by simp [Hid,finish,m2]
   rw [m2] at c5
   go_wp2_with fail
   refine (putShort_any F b o s 5 _ HS.out (by omega)).mono ?_
   rintro e w2 ⟨rfl,h2,b2⟩
   have B2:=hide (HB.out.trans b2)
   have E0:=hide (HW.out.ev0.bes b2 hne)
   have E1:=hide (HW.out.ev1.bes b2 hne1)
   have z2:=E1.out.lt
   have H2:=hide h2
   clear h2 b2 c5
   go_wp2_with fail
   refine (leave_any F b o (putShort 5 s) _ H2.out hn).mono ?_
   rintro e w3 ⟨rfl,h3,b3⟩
   have B3:=hide (B2.out.trans b3)
   have F0:=hide (E0.out.bes b3 hne)
   have F1:=hide (E1.out.bes b3 hne1)
   have H3:=hide h3
   clear h3 b3
   go_wp2_with fail
   refine (becomeIdle_any _ b o (leave (putShort 5 s)) _ H3.out).mono ?_
   rintro e w4 ⟨rfl,h4,b4⟩
   have B4:=hide (B3.out.trans b4)
   have G0:=hide (F0.out.bes b4 hne)
   have G1:=hide (F1.out.bes b4 hne1)
   have c7:=h4.rest
   have f7:=h4.fz (o + 7)
   obtain ⟨x0,x1,x2,x3,x4,x5⟩:=G0.out.cell
   obtain ⟨y0,y1,y2,y3,y4,y5⟩:=G1.out.cell
   have q0:=G0.out.free 0
   have q1:=G0.out.free 1
   have q2:=G0.out.free 2
   have q3:=G0.out.free 3
   have q4:=G0.out.free 4
   have q5:=G0.out.free 5
   have H4:=hide h4
   clear h4 b4
   go_wp2
   (try simp only [Exit.inBlock,Exit.then])
   have K5:=hide (H4.out.rest' 3)
   have G5:=hide (G0.out.bes ((Bes.refl b o w4).set 7 (by omega) (.int .i64 (3:Nat))) hne)
   refine bodyPost_ret (results_ev rfl _ _ w.heap.size rfl (EvAt.all G5.out)) rfl ?_
   have hq:∀ v,(w4.setCell ⟨b,o + 7,none⟩ (.int .i64 (3:Nat))).cell? ⟨b,o + 1,none⟩ = some v → v.ownBlock ≠ some w.heap.size:=by
    intro v hv e
    obtain ⟨u,hu,hQ⟩:=K5.out.que
    rw [hu] at hv
    cases hv
    have:=hQ.2 _ e
    unfold New at this
    omega
   rw [HE.out]
   refine ⟨rfl,(StAt.ev K5.out (by omega) hq _ _ _ _ _ _).mono (fun g hg=>Or.inr (by unfold New at hg; omega)) (fun x=>x.elim H.out.nb (fun y=>by omega)),Bes.ev (B4.out.set 7 (by omega) _) (Nat.le_refl _) hlt _ _ _ _ _ _⟩
  ·have HE:Hid (finish k s = ({ becomeIdle (leave s) with rest:=3 },some ⟨k,s.side,number s,noMsg⟩)):=by simp [Hid,finish,m2]
   have m2':¬ (s.mode:Int) = 2:=by omega
   have E0:=hide HW.out.ev0
   have E1:=hide HW.out.ev1
   have z2:=E1.out.lt
   have B2:=HB
   go_wp2_with fail
   refine (leave_any F b o s _ HS.out hn).mono ?_
   rintro e w3 ⟨rfl,h3,b3⟩
   have B3:=hide (B2.out.trans b3)
   have F0:=hide (E0.out.bes b3 hne)
   have F1:=hide (E1.out.bes b3 hne1)
   have H3:=hide h3
   clear h3 b3
   go_wp2_with fail
   refine (becomeIdle_any _ b o (leave s) _ H3.out).mono ?_
   rintro e w4 ⟨rfl,h4,b4⟩
   have B4:=hide (B3.out.trans b4)
   have G0:=hide (F0.out.bes b4 hne)
   have G1:=hide (F1.out.bes b4 hne1)
   have c7:=h4.rest
   have f7:=h4.fz (o + 7)
   obtain ⟨x0,x1,x2,x3,x4,x5⟩:=G0.out.cell
   obtain ⟨y0,y1,y2,y3,y4,y5⟩:=G1.out.cell
   have q0:=G0.out.free 0
   have q1:=G0.out.free 1
   have q2:=G0.out.free 2
   have q3:=G0.out.free 3
   have q4:=G0.out.free 4
   have q5:=G0.out.free 5
   have H4:=hide h4
   clear h4 b4
   go_wp2
   (try simp only [Exit.inBlock,Exit.then])
   have K5:=hide (H4.out.rest' 3)
   have G5:=hide (G0.out.bes ((Bes.refl b o w4).set 7 (by omega) (.int .i64 (3:Nat))) hne)
   refine bodyPost_ret (results_ev rfl _ _ w.heap.size rfl (EvAt.all G5.out)) rfl ?_
   have hq:∀ v,(w4.setCell ⟨b,o + 7,none⟩ (.int .i64 (3:Nat))).cell? ⟨b,o + 1,none⟩ = some v → v.ownBlock ≠ some w.heap.size:=by
    intro v hv e
    obtain ⟨u,hu,hQ⟩:=K5.out.que
    rw [hu] at hv
    cases hv
    have:=hQ.2 _ e
    unfold New at this
    omega
   rw [HE.out]
   refine ⟨rfl,(StAt.ev K5.out (by omega) hq _ _ _ _ _ _).mono (fun g hg=>Or.inr (by unfold New at hg; omega)) (fun x=>x.elim H.out.nb (fun y=>by omega)),Bes.ev (B4.out.set 7 (by omega) _) (Nat.le_refl _) hlt _ _ _ _ _ _⟩
 ·have hW:=fin2 w (1 + n1) (.int .i64 k) (.int .i64 s.side) (.int .i64 (number s:Nat))
  unfold zeroEv at hW
  generalize ((((((((w.alloc (.cells #[.int .i64 0,.int .i64 0,.int .i64 0,.string ⟨#[]⟩,.string ⟨#[]⟩,.bool false] 62)).alloc (.cells #[.int .i64 0,.int .i64 0,.int .i64 0,.string ⟨#[]⟩,.string ⟨#[]⟩,.bool false] 62)).drewN (1 + n1)).setCell ⟨w.heap.size + 1,0,none⟩ (.int .i64 k)).setCell ⟨w.heap.size + 1,1,none⟩ (.int .i64 s.side)).setCell ⟨w.heap.size + 1,2,none⟩ (.int .i64 (number s:Nat))).setCell ⟨w.heap.size + 1,3,none⟩ (.string ⟨#[]⟩)).setCell ⟨w.heap.size + 1,4,none⟩ (.string ⟨#[]⟩) |>.setCell ⟨w.heap.size + 1,5,none⟩ (.bool false)) = W at *
  have HW:=hide hW
  have HS:=hide (H.out.below hW.bel)
  have HB:=hide ((Bes.refl b o w).below hlt hW.bel)
  have hz1:=hW.ev1.lt
  have c5:=HS.out.mode
  clear hW c0
  by_cases m2:s.mode = 2
  ·have HE:Hid (finish k s = ({ becomeIdle (leave (putShort 5 s)) with rest:=3 },some ⟨k,s.side,number s,noMsg⟩)):=by simp [Hid,finish,m2]
   rw [m2] at c5
   go_wp2_with fail
   refine (putShort_any F b o s 5 _ HS.out (by omega)).mono ?_
   rintro e w2 ⟨rfl,h2,b2⟩
   have B2:=hide (HB.out.trans b2)
   have E0:=hide (HW.out.ev0.bes b2 hne)
   have E1:=hide (HW.out.ev1.bes b2 hne1)
   have z2:=E1.out.lt
   have H2:=hide h2
   clear h2 b2 c5
   go_wp2_with fail
   refine (leave_any F b o (putShort 5 s) _ H2.out hn).mono ?_
   rintro e w3 ⟨rfl,h3,b3⟩
   have B3:=hide (B2.out.trans b3)
   have F0:=hide (E0.out.bes b3 hne)
   have F1:=hide (E1.out.bes b3 hne1)
   have H3:=hide h3
   clear h3 b3
   go_wp2_with fail
   refine (becomeIdle_any _ b o (leave (putShort 5 s)) _ H3.out).mono ?_
   rintro e w4 ⟨rfl,h4,b4⟩
   have B4:=hide (B3.out.trans b4)
   have G0:=hide (F0.out.bes b4 hne)
   have G1:=hide (F1.out.bes b4 hne1)
   have c7:=h4.rest
   have f7:=h4.fz (o + 7)
   obtain ⟨x0,x1,x2,x3,x4,x5⟩:=G0.out.cell
   obtain ⟨y0,y1,y2,y3,y4,y5⟩:=G1.out.cell
   have q0:=G0.out.free 0
   have q1:=G0.out.free 1
   have q2:=G0.out.free 2
   have q3:=G0.out.free 3
   have q4:=G0.out.free 4
   have q5:=G0.out.free 5
   have H4:=hide h4
   clear h4 b4
   go_wp2
   (try simp only [Exit.inBlock,Exit.then])
   have K5:=hide (H4.out.rest' 3)
   have G5:=hide (G0.out.bes ((Bes.refl b o w4).set 7 (by omega) (.int .i64 (3:Nat))) hne)
   refine bodyPost_ret (results_ev rfl _ _ w.heap.size rfl (EvAt.all G5.out)) rfl ?_
   have hq:∀ v,(w4.setCell ⟨b,o + 7,none⟩ (.int .i64 (3:Nat))).cell? ⟨b,o + 1,none⟩ = some v → v.ownBlock ≠ some w.heap.size:=by
    intro v hv e
    obtain ⟨u,hu,hQ⟩:=K5.out.que
    rw [hu] at hv
    cases hv
    have:=hQ.2 _ e
    unfold New at this
    omega
   rw [HE.out]
   refine ⟨rfl,(StAt.ev K5.out (by omega) hq _ _ _ _ _ _).mono (fun g hg=>Or.inr (by unfold New at hg; omega)) (fun x=>x.elim H.out.nb (fun y=>by omega)),Bes.ev (B4.out.set 7 (by omega) _) (Nat.le_refl _) hlt _ _ _ _ _ _⟩
  ·have HE:Hid (finish k s = ({ becomeIdle (leave s) with rest:=3 },some ⟨k,s.side,number s,noMsg⟩)):=by simp [Hid,finish,m2]
   have m2':¬ (s.mode:Int) = 2:=by omega
   have E0:=hide HW.out.ev0
   have E1:=hide HW.out.ev1
   have z2:=E1.out.lt
   have B2:=HB
   go_wp2_with fail
   refine (leave_any F b o s _ HS.out hn).mono ?_
   rintro e w3 ⟨rfl,h3,b3⟩
   have B3:=hide (B2.out.trans b3)
   have F0:=hide (E0.out.bes b3 hne)
   have F1:=hide (E1.out.bes b3 hne1)
   have H3:=hide h3
   clear h3 b3
   go_wp2_with fail
   refine (becomeIdle_any _ b o (leave s) _ H3.out).mono ?_
   rintro e w4 ⟨rfl,h4,b4⟩
   have B4:=hide (B3.out.trans b4)
   have G0:=hide (F0.out.bes b4 hne)
   have G1:=hide (F1.out.bes b4 hne1)
   have c7:=h4.rest
   have f7:=h4.fz (o + 7)
   obtain ⟨x0,x1,x2,x3,x4,x5⟩:=G0.out.cell
   obtain ⟨y0,y1,y2,y3,y4,y5⟩:=G1.out.cell
   have q0:=G0.out.free 0
   have q1:=G0.out.free 1
   have q2:=G0.out.free 2
   have q3:=G0.out.free 3
   have q4:=G0.out.free 4
   have q5:=G0.out.free 5
   have H4:=hide h4
   clear h4 b4
   go_wp2
   (try simp only [Exit.inBlock,Exit.then])
   have K5:=hide (H4.out.rest' 3)
   have G5:=hide (G0.out.bes ((Bes.refl b o w4).set 7 (by omega) (.int .i64 (3:Nat))) hne)
   refine bodyPost_ret (results_ev rfl _ _ w.heap.size rfl (EvAt.all G5.out)) rfl ?_
   have hq:∀ v,(w4.setCell ⟨b,o + 7,none⟩ (.int .i64 (3:Nat))).cell? ⟨b,o + 1,none⟩ = some v → v.ownBlock ≠ some w.heap.size:=by
    intro v hv e
    obtain ⟨u,hu,hQ⟩:=K5.out.que
    rw [hu] at hv
    cases hv
    have:=hQ.2 _ e
    unfold New at this
    omega
   rw [HE.out]
   refine ⟨rfl,(StAt.ev K5.out (by omega) hq _ _ _ _ _ _).mono (fun g hg=>Or.inr (by unfold New at hg; omega)) (fun x=>x.elim H.out.nb (fun y=>by omega)),Bes.ev (B4.out.set 7 (by omega) _) (Nat.le_refl _) hlt _ _ _ _ _ _⟩
/-- From here on the world is a letter of which R is known. -/
theorem wp_at {P:Program} {c:Code} {Q:Exit → Act → World → Prop} {a:Act} {W:World} (R:World → Prop) (h:R W) (k:∀ W',R W' → Code.wp P c Q a W'):Code.wp P c Q a W:=k W h
theorem Plus.sub {F:Nat → Prop} {w w1:World} (h:w.heap.size ≤ w1.heap.size):∀ g,Plus F w1 g → Plus F w g:=fun _ hg=>hg.elim Or.inl (fun y=>Or.inr (Nat.le_trans h y))
theorem StAt.drewN {w:World} {F:Nat → Prop} {b o:Nat} {s:PS} (h:StAt w F b o s) (n:Nat):StAt (w.drewN n) F b o s:=h.below (below_drewN (Below.refl _ _) n)
theorem Bes.drewN {w u:World} {b o:Nat} (h:Bes b o u w) (n:Nat):Bes b o u (w.drewN n):=⟨h.os,h.tape,h.output,h.size,h.block,h.cell,h.froz⟩
theorem EvAt.drewN {w:World} {g:Nat} {v0 v1 v2 v3 v4 v5:Value} (h:EvAt w g v0 v1 v2 v3 v4 v5) (n:Nat):EvAt (w.drewN n) g v0 v1 v2 v3 v4 v5:=h
theorem EvAt.new {w:World} {g:Nat} (hg:w.heap.size = g) (v0 v1 v2 v3 v4 v5:Value):EvAt (w.alloc (.cells #[v0,v1,v2,v3,v4,v5] 62)) g v0 v1 v2 v3 v4 v5:=by subst hg; exact heap_alloc_new w _
theorem CfgAt.at {w:World} {g:Nat} (hg:w.heap.size = g) (c:Cfg):CfgAt (w.alloc (.cells (cfgCells c) 26)) g c:=by subst hg; exact heap_alloc_new w _
theorem CfgAt.alloc {w:World} {g:Nat} {c:Cfg} (h:CfgAt w g c) (x:Obj):CfgAt (w.alloc x) g c:=h.below ((Below.refl _ _).alloc (Nat.le_refl _) x)
theorem EvAt.alloc {w:World} {g:Nat} {v0 v1 v2 v3 v4 v5:Value} (h:EvAt w g v0 v1 v2 v3 v4 v5) (x:Obj):EvAt (w.alloc x) g v0 v1 v2 v3 v4 v5:=h.below ((Below.refl _ _).alloc (Nat.le_refl _) x)
/-- An empty event in memory. -/
def Ev0 (w:World) (g:Nat):Prop:=EvAt w g (.int .i64 0) (.int .i64 0) (.int .i64 0) (.string ⟨#[]⟩) (.string ⟨#[]⟩) (.bool false)
/-- How a method ends that answers an event. -/
theorem ev_end {w w4:World} {F G:Nat → Prop} {b o g:Nat} {s:PS} (h:StAt w4 G b o s) (B:Bes b o w w4) (hG:∀ x,G x → Plus F w x) (hq:∀ x,G x → x ≠ g) (hg:w.heap.size ≤ g) (hlt:b < w.heap.size) (hn:¬ F b) (u0 u1 u2 u3 u4 u5:Value) :
  StAt ((((((w4.setCell ⟨g,0,none⟩ u0).setCell ⟨g,1,none⟩ u1).setCell ⟨g,2,none⟩ u2).setCell ⟨g,3,none⟩ u3).setCell ⟨g,4,none⟩ u4).setCell ⟨g,5,none⟩ u5) (Plus F w) b o s ∧
  Bes b o w ((((((w4.setCell ⟨g,0,none⟩ u0).setCell ⟨g,1,none⟩ u1).setCell ⟨g,2,none⟩ u2).setCell ⟨g,3,none⟩ u3).setCell ⟨g,4,none⟩ u4).setCell ⟨g,5,none⟩ u5):=by
 refine ⟨(StAt.ev h (by omega) ?_ _ _ _ _ _ _).mono hG (fun x=>x.elim hn (fun y=>by omega)),Bes.ev B hg hlt _ _ _ _ _ _⟩
 intro v hv e
 obtain ⟨u,hu,hQ⟩:=h.que
 rw [hu] at hv
 cases hv
 exact hq g (hQ.2 _ e) rfl
theorem plus_ne {F:Nat → Prop} {w w1:World} {g:Nat} (hF:∀ x,F x → x < w.heap.size) (h1:w.heap.size ≤ g) (h2:g < w1.heap.size):∀ x,Plus F w1 x → x ≠ g:=by
 rintro x (hx | hx)
 ·have:=hF x hx; omega
 ·omega
theorem own_ne {F:Nat → Prop} {w:World} {g:Nat} (hF:∀ x,F x → x < w.heap.size) (h1:w.heap.size ≤ g):∀ x,F x → x ≠ g:=fun x hx=>by have:=hF x hx; omega
set_option maxRecDepth 1000000 in
theorem putOff_any (F:Nat → Prop) (b o:Nat) (s:PS) (c:Cfg) (w:World) (h:StAt w F b o s) (hF:∀ x,F x → x < w.heap.size) (hj:s.q.length ≤ s.joined) (hm:s.joined ≤ 1000000000000000) (hn:s.q.length ≤ 100) (ho:s.off ≤ 1000) :
  Calls Tryz.prog 121 #[.pointer (some ⟨b,o,none⟩),cfgV c] w fun e w'=>Tells w F b o (putOff c s) e w':=by
 have hlt:=h.lt
 have hne:b ≠ w.heap.size:=by omega
 have hne1:b ≠ w.heap.size + 1:=by omega
 have c9:=h.off
 have f9:=h.fz (o + 9)
 have H:=hide h
 clear h
 unfold cfgV
 go_enter Tryz.func121,Tryz.ntmps121
 go_wp2_with fail
 refine wp_at (fun W=>StAt W F b o { s with off:=s.off + 1 } ∧ Bes b o w W ∧ CfgAt W w.heap.size c ∧ Ev0 W (w.heap.size + 1)) ?_ ?_
 ·exact ⟨((H.out.off' (s.off + 1)).alloc _).alloc _,(((Bes.refl b o w).set 9 (by omega) _).alloc (by simpa using hlt) _).alloc (by simp; omega) _,(CfgAt.at (by simp) c).alloc _,EvAt.new (by simp) _ _ _ _ _ _⟩
 rintro W ⟨h0,B0,C0,E0⟩
 have c9:=h0.off
 have c10:=h0.free
 have f10:=h0.fz (o + 10)
 obtain ⟨k0,k1,k2,k3,k4,k5,k6,k7,k8,k9⟩:=C0.all
 have HS:=hide h0
 have HB:=hide B0
 have HC:=hide C0
 have HV:=hide E0
 have hz:=E0.lt
 simp only at c9
 clear h0 B0 C0 E0
 by_cases hw:s.off + 1 > c.waits
 ·have HE:Hid (putOff c s = finish 3 { s with off:=s.off + 1 }):=by simp [Hid,putOff,hw]
  have hw':(c.waits:Int) < ((s.off + 1:Nat):Int):=by omega
  generalize s.off + 1 = off1 at *
  go_quiet (fail)
  go_wp2_with fail
  refine (finish_any F b o _ 3 _ (HS.out.drewN nq) hj hm hn).mono ?_
  rintro e w2 ⟨rfl,h2,b2⟩
  have HV2:=hide (HV.out.bes (b:=b) (o:=o) ((Bes.refl b o W).drewN nq |>.trans b2) hne1)
  have HB2:=hide ((HB.out.drewN nq).trans b2)
  obtain ⟨x0,x1,x2,x3,x4,x5⟩:=HV2.out.cell
  have q0:=HV2.out.free 0
  have q1:=HV2.out.free 1
  have q2:=HV2.out.free 2
  have q3:=HV2.out.free 3
  have q4:=HV2.out.free 4
  have q5:=HV2.out.free 5
  have H2:=hide h2
  clear h2 b2 c9 c10 f10 k0 k1 k2 k3 k4 k5 k6 k7 k8 k9
  simp only [finish,evV]
  go_wp2
  (try simp only [Exit.inBlock,Exit.then])
  refine bodyPost_ret (results_ev rfl _ _ (w.heap.size + 1) rfl (EvAt.all HV2.out)) rfl ?_
  rw [HE.out]
  exact ⟨rfl,ev_end H2.out HB2.out (Plus.sub HB.out.size) (plus_ne hF (by omega) hz) (by omega) hlt H.out.nb _ _ _ _ _ _⟩
 ·have HE:Hid (putOff c s = (beginWait c { s with off:=s.off + 1,free:=true },none)):=by simp [Hid,putOff,hw]
  have hw':¬ (c.waits:Int) < ((s.off + 1:Nat):Int):=by omega
  generalize s.off + 1 = off1 at *
  go_quiet (fail)
  go_wp2_with fail
  refine (beginWait_any F b o _ c _ ((HS.out.drewN nq).free' true)).mono ?_
  rintro e w2 ⟨rfl,h2,b2⟩
  have b3:=((((Bes.refl b o W).drewN nq).set 10 (by omega) (.bool true)).trans b2)
  have HV2:=hide (HV.out.bes b3 hne1)
  have HB2:=hide (HB.out.trans b3)
  obtain ⟨x0,x1,x2,x3,x4,x5⟩:=HV2.out.cell
  have q0:=HV2.out.free 0
  have q1:=HV2.out.free 1
  have q2:=HV2.out.free 2
  have q3:=HV2.out.free 3
  have q4:=HV2.out.free 4
  have q5:=HV2.out.free 5
  have H2:=hide h2
  clear h2 b2 b3 c9 c10 f10 k0 k1 k2 k3 k4 k5 k6 k7 k8 k9
  go_wp2
  (try simp only [Exit.inBlock,Exit.then])
  refine bodyPost_ret (results_ev rfl _ _ (w.heap.size + 1) rfl (EvAt.all HV2.out)) rfl ?_
  rw [HE.out]
  exact ⟨rfl,ev_end H2.out HB2.out (fun _=>Or.inl) (own_ne hF (by omega)) (by omega) hlt H.out.nb _ _ _ _ _ _⟩
end Go.Proofs.YtlbpjcphhocdkaaGreat
