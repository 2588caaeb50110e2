/- The document's station: the block under way. The document's station: the bounds that its walks want. The document's station: what it hears, what its methods by mode leave. The document's station, bidding. The document's .. -/
import Derived.Test.YtlbpjcphhocdkaaGreatQ19
import Derived.Test.YtlbpjcphhocdkaaGreatQ13
import Derived.Test.YtlbpjcphhocdkaaGreatQ15
import Derived.Deep.RegionHeld3
import Derived.Test.YtlbpjcphhocdkaaGreatQ14
import Derived.Test.YtlbpjcphhocdkaaGreatQ05
import Derived.Test.YtlbpjcphhocdkaaGreatQ02
set_option maxRecDepth 1000000
set_option maxHeartbeats 16000000
namespace Go.Proofs.YtlbpjcphhocdkaaGreat
open Go.RowKit Go.Proofs.YtlbpjcphhocdkaaGreat.Mod Go.Proofs.YtlbpjcphhocdkaaGreat.Pst
theorem enc_tx {c:Cfg} {b:Bk} (hc:c.Ok) (hb:Blk.berr b.head b.parts b.clear = 0):Blk.encS b.head b.parts b.clear b.last c.check = txOf c (.blk b):=by
 have hk:(c.check:Int) = 0 ∨ (c.check:Int) = 1:=by have:=hc.check; omega
 have e:Blk.encE b.head b.parts b.clear c.check = 0:=by unfold Blk.encE; rw [if_pos hk]; exact hb
 unfold Blk.encS txOf
 simp [e]
theorem blk_sizes {h:List UInt8} {ps:List (List UInt8)} {c:Bool} {lb:List ByteArray} (hb:Blk.berr h ps c = 0) (hd:datas lb = ps):h.length ≤ 8 ∧ lb.length ≤ 4 ∧ ∀ s ∈ lb,s.size ≤ 140737488352000:=by
 obtain ⟨h1,_,h3,h4⟩:=Blk.berr_ok hb
 refine ⟨Blk.headOk_le h1,by rw [← hd,datas_length] at h3; exact h3,fun s hs=>?_⟩
 obtain ⟨i,hi,rfl⟩:=List.mem_iff_getElem.1 hs
 have:=Blk.parts_le h4 i
 rw [← hd,datas_getD] at this
 simp only [List.getD,List.getElem?_eq_getElem hi,Option.getD_some,Array.length_toList] at this
 have h5:lb[i].data.size = lb[i].size:=rfl
 omega
/-- The cells that the first region reads. -/
def Bq (A:RAd) (c:Cfg) (g n cap:Nat) (m:Msg) (W:World):Prop:=W.cell? ⟨A.sb,2,none⟩ = some (.slice (some ⟨g,0,none⟩) n cap) ∧ W.cell? ⟨g,0,none⟩ = some (.string ⟨m.head.toArray⟩) ∧ W.cell? ⟨g,1,none⟩ = some (.string ⟨m.text.toArray⟩) ∧ W.cell? ⟨g,2,none⟩ = some (.bool m.clear) ∧ W.cell? ⟨A.yb,1,none⟩ = some (.int .i64 c.size) ∧ W.cell? ⟨A.yb,2,none⟩ = some (.int .i64 c.parts)
theorem Bq.of {F:Nat → Prop} {A:RAd} {c:Cfg} {now:Nat} {s:RS} {on:List UInt8} {w:World} (h:RAt w F A c now s on) (hne:s.q ≠ []):∃ g cap,Bq A c g s.q.length cap (s.q.headD noMsg) w ∧ g < w.heap.size:=by
 obtain ⟨v,c2,hv⟩:=h.que
 obtain ⟨g,cap,rfl,_,_,hgl,hcell⟩:=hv.some hne
 have hpos:0 < s.q.length:=by cases e:s.q with | nil=>exact absurd e hne | cons a l=>simp
 obtain ⟨m0,m1,m2⟩:=hcell 0 hpos
 have hd:s.q.getD 0 noMsg = s.q.headD noMsg:=by cases s.q <;> rfl
 rw [hd] at m0 m1 m2
 obtain ⟨k0,k1,k2,_⟩:=h.cfg
 exact ⟨g,cap,⟨c2,by simpa using m0,by simpa using m1,by simpa using m2,k1,k2⟩,hgl⟩
theorem Bq.below {A:RAd} {c:Cfg} {g n cap:Nat} {m:Msg} {w W:World} (h:Bq A c g n cap m w) (hb:Below w.heap.size w W):Bq A c g n cap m W:=by
 have e:∀ (p:Addr) (x:Value),w.cell? p = some x → W.cell? p = some x:=fun p x hp=>(hb.cell (World.block_lt_of_cell? w p hp)).trans hp
 obtain ⟨h1,h2,h3,h4,h5,h6⟩:=h
 exact ⟨e _ _ h1,e _ _ h2,e _ _ h3,e _ _ h4,e _ _ h5,e _ _ h6⟩
theorem block_any (F:Nat → Prop) (A:RAd) (c:Cfg) (now:Nat) (s:RS) (on:List UInt8) (w:World) (h:RAt w F A c now s on) (hc:c.Ok) (hne:s.q ≠ []) (hm:MsgFit (s.q.headD noMsg)) (hb:s.block < nblk c (s.q.headD noMsg)) :
  Calls Tryz.prog 145 #[.pointer (some ⟨A.yb,0,none⟩),.int .i64 A.i] w fun e w'=>RDoes w F A c now (rsendBlk c now s).1 (rsendBlk c now s).2.1 e w':=by
 have hi:=h.ok.i
 obtain ⟨g,cap,hq,hgl⟩:=Bq.of h hne
 have hpos:0 < s.q.length:=by cases e:s.q with | nil=>exact absurd e hne | cons a l=>simp
 have hq8:s.q.length ≤ 9223372036854775807:=by
  obtain ⟨v,_,hv⟩:=h.que
  rcases hv.1.2 with ⟨_,h0⟩ | ⟨_,_,_,_,_,_,h1,h2,_⟩
  ·omega
  ·unfold maxLen at h2; omega
 have HFIT:=hide (blk_fit hc hm hb)
 have HTX:=hide (enc_tx hc HFIT.out)
 have hR:rsendBlk c now s = ({ s with began:=now,wait:=c.reply },txOf c (.blk (blkAt c (s.q.headD noMsg) s.block)),none):=rfl
 rw [hR]
 generalize s.q.headD noMsg = m at *
 have ht:=hm.2.1
 have HC:=hide hc
 have HQ:=hide hq
 obtain ⟨q0,q1,q2,q3,q4,q5⟩:=hq
 have d1:=h.lst
 have d2:=h.ptr
 have H:=hide h
 have hn5:(0:Int) < (s.q.length:Int):=by omega
 clear h hc hm hne hR
 go_enter Tryz.func145,Tryz.ntmps145
 go_wp2_with fail
 go_region_held3 (fun W=>W.cell? ⟨A.sb,2,none⟩ = some (.slice (some ⟨g,0,none⟩) s.q.length cap) ∧ W.cell? ⟨g,0,none⟩ = some (.string ⟨m.head.toArray⟩) ∧ W.cell? ⟨g,1,none⟩ = some (.string ⟨m.text.toArray⟩) ∧ W.cell? ⟨g,2,none⟩ = some (.bool m.clear) ∧ W.cell? ⟨A.yb,1,none⟩ = some (.int .i64 c.size) ∧ W.cell? ⟨A.yb,2,none⟩ = some (.int .i64 c.parts)) (first | exact HQ.out | exact HQ.out.below (below_drew_head hb1))
  (first | (go_at_call 147; refine (rblocks_any c m _ HC.out ht).mono ?_; rintro e w1 ⟨v1,vs1,rfl,hG1,hb1⟩))
 have hb1:=below_drew_head hb1
 have H1:=hide (H.out.below hb1)
 have B1:=hide ((RB.refl A w).below H.out.lob H.out.lsb hb1)
 have hlen:s.block < (blocks c m).length:=by rw [blocks_len]; exact hb
 obtain ⟨g1,cap1,ap,cp,ps,ge,-,gl1,c0,c1,c2,c3,htx,hps,hmx,-⟩:=hG1.at'.get hlen
 subst ge
 rw [blocks_get] at c0 c2 c3 hps
 obtain ⟨s1,s2,s3⟩:=blk_sizes HFIT.out hps
 generalize hbb:blkAt c m s.block = b at *
 have HBB:=hide hbb
 clear hbb
 have hEQ:Blk.encS (⟨b.head.toArray⟩:ByteArray).data.toList (datas ps) b.clear b.last c.check = txOf c (.blk b):=by rw [← HTX.out,hps]
 have HEQ:=hide hEQ
 have HS3:=hide s3
 have HTXT:=hide htx
 have k10:=H1.out.block
 have k0:=H1.out.cfg.1
 have hkeep:∀ W,Below w1.heap.size w1 W → W.cell? ⟨A.sb,10,none⟩ = some (.int .i64 s.block) ∧ W.cell? ⟨g1,s.block * 4,none⟩ = some (.string ⟨b.head.toArray⟩) ∧ W.cell? ⟨g1,s.block * 4 + 1,none⟩ = some (.slice ap ps.length cp) ∧ W.cell? ⟨g1,s.block * 4 + 2,none⟩ = some (.bool b.clear) ∧ W.cell? ⟨g1,s.block * 4 + 3,none⟩ = some (.bool b.last) ∧ W.cell? ⟨A.yb,0,none⟩ = some (.int .i64 c.check):=fun W hW=>by
  have e:∀ (p:Addr) (x:Value),w1.cell? p = some x → W.cell? p = some x:=fun p x hp=>(hW.cell (World.block_lt_of_cell? w1 p hp)).trans hp
  exact ⟨e _ _ k10,e _ _ c0,e _ _ c1,e _ _ c2,e _ _ c3,e _ _ k0⟩
 have HKP:=hide hkeep
 have hbl:(s.block:Int) < ((blocks c m).length:Int):=by omega
 have hs1:(⟨b.head.toArray⟩:ByteArray).size ≤ 140737488352000:=by show b.head.length ≤ _; omega
 generalize (blocks c m).length = nb at *
 clear hG1 hb1 hlen hps htx s3 hkeep hEQ q0 q1 q2 q3 q4 q5 d1 d2
 go_wp2_with fail
 go_region_held3 (fun W=>W.cell? ⟨A.sb,10,none⟩ = some (.int .i64 s.block) ∧ W.cell? ⟨g1,s.block * 4,none⟩ = some (.string ⟨b.head.toArray⟩) ∧ W.cell? ⟨g1,s.block * 4 + 1,none⟩ = some (.slice ap ps.length cp) ∧ W.cell? ⟨g1,s.block * 4 + 2,none⟩ = some (.bool b.clear) ∧ W.cell? ⟨g1,s.block * 4 + 3,none⟩ = some (.bool b.last) ∧ W.cell? ⟨A.yb,0,none⟩ = some (.int .i64 c.check)) (first | exact HKP.out _ (Below.drew (Below.refl _ _)) | exact HKP.out _ (Below.refl _ _) | exact HKP.out _ (below_drew_head hb2) | exact HKP.out _ hb2)
  (first | (go_at_call 46; refine (refEncode_any ⟨b.head.toArray⟩ ap ps cp b.clear b.last c.check _ hs1 HS3.out (by omega) (HTXT.out.below ?_)).mono ?_; (repeat' (with_reducible (first | apply Below.drew | apply below_drewN | exact Below.refl _ _))); rintro e w2 ⟨rfl,hb2⟩))
 have hb2:=below_drew_head hb2
 rw [HEQ.out]
 have H2:=hide (H1.out.below hb2)
 have B2:=hide (B1.out.below H1.out.lob H1.out.lsb hb2)
 clear hb2 k10 k0 c0 c1 c2 c3
 have d1:=H2.out.onl
 have d2:=H2.out.on
 have d3:=H2.out.zob A.i
 have d4:=H2.out.cfg.2.2.2.2.2.2.1
 have n2:=H2.out.ok.h2
 have n2':=Ne.symm n2
 go_wp2_with fail
 refine (waits_any F A c now c.reply _ _ _ (H2.out.on' (txOf c (.blk b)))).mono ?_
 rintro e w3 ⟨rfl,h3,b3⟩
 go_wp2
 go_end0
 rw [← HBB.out] at h3
 exact ⟨rfl,h3,(B2.out.setO _).trans b3⟩
end Go.Proofs.YtlbpjcphhocdkaaGreat
namespace Go.Proofs.YtlbpjcphhocdkaaGreat
open Go.Proofs.YtlbpjcphhocdkaaGreat.Mod Go.Proofs.YtlbpjcphhocdkaaGreat.Pst
/-- Ahead of the tick now. -/
structure RBd (c:Cfg) (now i:Nat) (s:RS):Prop where
 ok:c.Ok
 mode:s.mode ≤ 3
 qj:s.q.length ≤ s.joined
 jm:s.joined ≤ 1000000000000000
 q8:s.q.length ≤ 8
 fit:∀ m ∈ s.q,MsgFit m
 que:s.mode = 1 ∨ s.mode = 2 → s.q ≠ []
 off:s.mode = 1 ∨ s.mode = 2 → s.off ≤ 7
 tries:s.mode = 1 ∨ s.mode = 2 → s.tries ≤ 8
 blk:s.mode = 2 → s.block < nblk c (s.q.headD noMsg)
 count:s.count ≤ 1000000000000
 got:s.got.length ≤ 1000000000000
 gsz:s.mode = 3 → (joinedM s.got).head.length ≤ 8 ∧ (joinedM s.got).text.length ≤ 200
 due:s.mode ≠ 0 → s.began + s.wait ≤ 1000000000000000
 end1:-3 ≤ s.ended
 end2:s.ended ≤ now
 now:now ≤ 100000000000000
theorem RBd.of {c:Cfg} {n i:Nat} {s:RS} {t:Stn} {q:Put} (hc:c.Ok) (r:RRel s t) (o:StOk c n i t q) (b:StB c n t) (g:Gr n t) (j:t.joined ≤ 1000000000000000) (hn:n ≤ 1000000000000):RBd c (n + 1) i s:=by
 have w:=hc.waits
 have y:=hc.tries
 have l:=hc.lost
 have re:=hc.reply
 have se:=hc.second
 refine ⟨hc,by rw [r.mode]; exact o.mode,by rw [r.q,r.joined]; exact b.qj,by rw [r.joined]; exact j,by rw [r.q]; exact b.qlen,by rw [r.q]; exact b.fit,by rw [r.mode,r.q]; exact o.que,?_,?_,by rw [r.mode,r.block,r.q]; exact b.blk,?_,?_,by rw [r.mode,r.got]; exact b.got,?_,?_,?_,by omega⟩
 ·rw [r.mode,r.off]; intro h; have:=b.off h; omega
 ·rw [r.mode,r.tries]
  rintro (h | h)
  ·have:=(o.bid h).2.2.2; omega
  ·have:=(o.snd h).2.2.2; omega
 ·rw [r.count]; have:=g.1; omega
 ·rw [r.got]; have:=g.2; omega
 ·intro h
  rw [r.mode] at h
  rw [← r.due h]
  have hm:=o.mode
  rcases (show t.mode = 1 ∨ t.mode = 2 ∨ t.mode = 3 by omega) with m | m | m
  ·have:=(o.bid m).2.1
   have:patience c i 1 ≤ 20:=by unfold patience; rw [if_neg (by decide),if_neg (by decide)]; split <;> omega
   omega
  ·have:=(o.snd m).2.1; omega
  ·have:=(o.rcv m).2; omega
 ·have:=r.rest; omega
 ·have:=r.rest; have:=b.rest; omega
theorem blk_nblk {c:Cfg} {m:Msg} (hc:c.Ok) (ht:m.text.length ≤ 200):nblk c m ≤ 200:=by
 rcases Nat.lt_or_ge 200 (nblk c m) with h | h
 ·rcases (block_lt hc 200).1 h with h | h
  ·omega
  ·have:1 ≤ c.size * c.parts:=Nat.mul_le_mul hc.size.1 hc.parts.1
   have:200 * 1 ≤ 200 * (c.size * c.parts):=Nat.mul_le_mul_left _ this
   omega
 ·exact h
end Go.Proofs.YtlbpjcphhocdkaaGreat
namespace Go.Proofs.YtlbpjcphhocdkaaGreat
open Go.RowKit Go.Proofs.YtlbpjcphhocdkaaGreat.Mod Go.Proofs.YtlbpjcphhocdkaaGreat.Pst
/-- What is heard,as a value; the texts lie in a block of F. -/
def RHrd (w:World) (F:Nat → Prop) (x:Value):Ans → Prop
 | .data h ps c t=>∃ v lb,x = .agg #[.int .i64 2,.string ⟨h.toArray⟩,v,.bool c,.bool t] ∧ w.ownsRow 0 9 1 v (List.length lb) (lb.map Value.string) ∧ (∀ g,v.ownBlock = some g → F g) ∧ datas lb = ps ∧ Blk.berr h ps c = 0
 | .none n=>x = zHeard n ∧ n ≠ 2
theorem RHrd.form {w:World} {F:Nat → Prop} {x:Value} {B:Ans} (h:RHrd w F x B):∃ (hb:ByteArray) (a:Option Addr) (n cap:Nat) (cl la:Bool),x = .agg #[.int .i64 (kindOf B:Nat),.string hb,.slice a n cap,.bool cl,.bool la]:=by
 cases B with
 | data hd ps c t =>
  obtain ⟨v,lb,rfl,hr,_⟩:=h
  obtain ⟨a,n,cp,rfl⟩:=row_slice hr
  exact ⟨_,_,_,_,_,_,rfl⟩
 | none n =>
  obtain ⟨rfl,_⟩:=h
  exact ⟨_,_,_,_,_,_,rfl⟩
theorem RHrd.keep {w w':World} {F:Nat → Prop} {x:Value} {B:Ans} (h:RHrd w F x B) (hk:∀ g,F g → g < w.heap.size → w'.heap[g]? = w.heap[g]?):RHrd w' F x B:=by
 cases B with
 | data hd ps c t =>
  obtain ⟨v,lb,e,hr,hf,r⟩:=h
  exact ⟨v,lb,e,row_keep hr (fun g hg hl=>hk g (hf g hg) hl),hf,r⟩
 | none n=>exact h
theorem RHrd.below {w w':World} {F:Nat → Prop} {x:Value} {B:Ans} (h:RHrd w F x B) (k:Below w.heap.size w w'):RHrd w' F x B:=h.keep fun g _ hg=>k.block g hg
theorem RHrd.mono {w:World} {F G:Nat → Prop} {x:Value} {B:Ans} (h:RHrd w F x B) (hG:∀ g,F g → G g):RHrd w G x B:=by
 cases B with
 | data hd ps c t =>
  obtain ⟨v,lb,e,hr,hf,r⟩:=h
  exact ⟨v,lb,e,hr,fun g hg=>hG g (hf g hg),r⟩
 | none n=>exact h
theorem RHrd.kind {w:World} {F:Nat → Prop} {x:Value} {B:Ans} (h:RHrd w F x B):kindOf B = 2 → ∃ hd ps c t,B = .data hd ps c t:=by
 intro e
 cases B with
 | data hd ps c t=>exact ⟨_,_,_,_,rfl⟩
 | none n=>exact absurd e h.2
/-- What a method that may not be named leaves. -/
def RNames (w:World) (F:Nat → Prop) (A:RAd) (c:Cfg) (now:Nat) (s:RS) (o:Option RDid) (e:Ending) (w':World):Prop :=
 ∃ (d:RDid) (b:Bool),e = .returned (.tuple #[evV d.2.2,.bool b]) ∧ RAt w' (Plus F w) A c now d.1 d.2.1 ∧ RB A w w' ∧ (b = true → o = some d) ∧ (b = false → o = none ∧ d = (s,[],none) ∧ RAt w' F A c now s [])
theorem results_evb {fn:Func} {k j:Tmp} (hf:fn.results = #[.cell k 62,.tmp j]) (tmps:Array Value) (w:World) (g:Nat) {v0 v1 v2 v3 v4 v5:Value} (ht:tmps.getD k undef = .pointer (some ⟨g,0,none⟩)) (h:EvAt w g v0 v1 v2 v3 v4 v5) :
  (results fn tmps).run Tryz.prog w = .ok (.tuple #[.agg #[v0,v1,v2,v3,v4,v5],tmps.getD j undef]) w:=by
 obtain ⟨c0,c1,c2,c3,c4,c5⟩:=h.cell
 simp only [Array.getD_eq_getD_getElem?] at ht
 simp [results,hf,ht,go_sem,c0,c1,c2,c3,c4,c5]
/-- Behind the boxes: the station,what is heard,the event to come. -/
structure RBx (w W:World) (F:Nat → Prop) (A:RAd) (c:Cfg) (now:Nat) (s:RS) (on:List UInt8) (x0 x1 x2 x3 x4:Value):Prop where
 at':RAt W F A c now s on
 bel:Below w.heap.size w W
 hrd:HrdAt W w.heap.size x0 x1 x2 x3 x4
 ev:Ev0 W (w.heap.size + 1)
theorem RBx.lt {w W:World} {F:Nat → Prop} {A:RAd} {c:Cfg} {now:Nat} {s:RS} {on:List UInt8} {x0 x1 x2 x3 x4:Value} (h:RBx w W F A c now s on x0 x1 x2 x3 x4):w.heap.size + 1 < W.heap.size:=EvAt.lt h.ev
theorem RBx.mk' {w:World} {F:Nat → Prop} {A:RAd} {c:Cfg} {now:Nat} {s:RS} {on:List UInt8} {x0 x1 x2 x3 x4:Value} (h:RAt w F A c now s on) :
  RBx w ((w.alloc (.cells #[x0,x1,x2,x3,x4] 98)).alloc (.cells #[.int .i64 0,.int .i64 0,.int .i64 0,.string ⟨#[]⟩,.string ⟨#[]⟩,.bool false] 62)) F A c now s on x0 x1 x2 x3 x4:=by
 refine ⟨h.below (Below.allocN (Below.allocN (Below.refl _ _) _) _),Below.allocN (Below.allocN (Below.refl _ _) _) _,?_,?_⟩
 ·exact (Below.heap_alloc _ _ _ (by simp)).trans (heap_alloc_new w _)
 ·have:=heap_alloc_new (w.alloc (.cells #[x0,x1,x2,x3,x4] 98)) (.cells #[.int .i64 0,.int .i64 0,.int .i64 0,.string ⟨#[]⟩,.string ⟨#[]⟩,.bool false] 62)
  rw [show (w.alloc (.cells #[x0,x1,x2,x3,x4] 98)).heap.size = w.heap.size + 1 by simp] at this
  exact this
theorem rdlater_eq (c:Cfg) (now i:Nat) (s:RS):rdlater c now i s = ((rlater c now i s).1,(if s.off + 1 > c.waits ∧ s.mode = 2 then shortB 5 else []),(rlater c now i s).2):=by
 unfold rdlater rlater
 by_cases h:s.off + 1 > c.waits
 ·rw [if_pos h,if_pos h]
  unfold rdends
  by_cases m:s.mode = 2
  ·have m':({ s with off:=s.off + 1 }:RS).mode = 2:=m
   rw [if_pos m',if_pos ⟨h,m⟩]; rfl
  ·have m':¬ ({ s with off:=s.off + 1 }:RS).mode = 2:=m
   rw [if_neg m',if_neg (fun k:s.off + 1 > c.waits ∧ s.mode = 2=>m k.2)]
 ·rw [if_neg h,if_neg h,if_neg (fun k=>h k.1)]
theorem rdends_eq (c:Cfg) (now i k:Nat) (s:RS):rdends c now i k s = ((rends now i k s).1,(if s.mode = 2 then shortB 5 else []),(rends now i k s).2):=by
 unfold rdends
 by_cases m:s.mode = 2
 ·rw [if_pos m,if_pos m]; rfl
 ·rw [if_neg m,if_neg m]
theorem tells_tx (c:Cfg) (s:RS):shortB (if s.busy then 9 else yesN s.count) = txOf c (rtells s):=by unfold rtells; cases s.busy <;> rfl
theorem Ev0.rb {A:RAd} {w w':World} {g:Nat} (h:Ev0 w g) (k:RB A w w') (h1:g ≠ A.sb) (h2:g ≠ A.ob):Ev0 w' g:=EvAt.rb h k h1 h2
theorem rnames_end {w w4:World} {F G:Nat → Prop} {A:RAd} {c:Cfg} {now g:Nat} {s s':RS} {on':List UInt8} {o:Option RDid} {d:RDid} {b:Bool} {u0 u1 u2 u3 u4 u5 v:Value} (h:RAt w4 G A c now d.1 d.2.1) (B:RB A w w4) (hG:∀ x,G x → Plus F w x) (hg:¬ G g) (hgw:w.heap.size ≤ g) (h0:RAt w F A c now s' on')
  (hv:Value.tuple #[.agg #[u0,u1,u2,u3,u4,u5],v] = .tuple #[evV d.2.2,.bool b]) (h1:b = true → o = some d) (h2:b = false → o = none ∧ d = (s,[],none) ∧ RAt w4 F A c now s [] ∧ ¬ F g) :
  RNames w F A c now s o (.returned (.tuple #[.agg #[u0,u1,u2,u3,u4,u5],v])) ((((((w4.setCell ⟨g,0,none⟩ u0).setCell ⟨g,1,none⟩ u1).setCell ⟨g,2,none⟩ u2).setCell ⟨g,3,none⟩ u3).setCell ⟨g,4,none⟩ u4).setCell ⟨g,5,none⟩ u5):=by
 have hE:=rend h B hG hg hgw h0 u0 u1 u2 u3 u4 u5
 refine ⟨d,b,by rw [hv],hE.1,hE.2,h1,fun k=>⟨(h2 k).1,(h2 k).2.1,?_⟩⟩
 have a1:=h0.lyb
 have a2:=h0.lsl
 have a3:=h0.lob
 have a4:=h0.lsb
 exact rev_end (h2 k).2.2.1 (h2 k).2.2.2 (by omega) (by omega) (by omega) (by omega) _ _ _ _ _ _
theorem rtells_end {w w4:World} {F G:Nat → Prop} {A:RAd} {c:Cfg} {now g:Nat} {s':RS} {on on':List UInt8} {r:RS × Option Ev} {u0 u1 u2 u3 u4 u5:Value} (h:RAt w4 G A c now r.1 on) (B:RB A w w4) (hG:∀ x,G x → Plus F w x) (hg:¬ G g) (hgw:w.heap.size ≤ g) (h0:RAt w F A c now s' on')
  (hv:Value.agg #[u0,u1,u2,u3,u4,u5] = evV r.2) :
  RTells w F A c now r on (.returned (.agg #[u0,u1,u2,u3,u4,u5])) ((((((w4.setCell ⟨g,0,none⟩ u0).setCell ⟨g,1,none⟩ u1).setCell ⟨g,2,none⟩ u2).setCell ⟨g,3,none⟩ u3).setCell ⟨g,4,none⟩ u4).setCell ⟨g,5,none⟩ u5):=by
 have hE:=rend h B hG hg hgw h0 u0 u1 u2 u3 u4 u5
 exact ⟨by rw [hv],hE.1,hE.2⟩
theorem rbid_send (F:Nat → Prop) (A:RAd) (c:Cfg) (now:Nat) (s:RS) (B:Ans) (x:Value) (w:World) (h:RAt w F A c now s []) (hF:∀ g,F g → g < w.heap.size) (hx:RHrd w F x B) (hb:RBd c now A.i s) (hm:s.mode = 1) (h7:kindOf B = 7) :
  Calls Tryz.prog 133 #[.pointer (some ⟨A.yb,0,none⟩),.int .i64 A.i,x] w fun e w'=>RNames w F A c now s (rbidding c now A.i s B) e w':=by
 have hi:=h.ok.i
 have lsb:=h.lsb
 have lyb:=h.lyb
 have lsl:=h.lsl
 have lob:=h.lob
 have HX:=hide hx
 have HBD:=hide hb
 have hq8:=hb.q8
 obtain ⟨hb0,a0,n0,cap0,cl0,la0,rfl⟩:=hx.form
 have H:=hide h
 have HF:=hide hF
 have X:=hide (RBx.mk' (x0:=.int .i64 (kindOf B:Nat)) (x1:=.string hb0) (x2:=.slice a0 n0 cap0) (x3:=.bool cl0) (x4:=.bool la0) h)
 clear h hx hF hb
 have Zhm:=hide hm
 clear hm
 have Zh7:=hide h7
 clear h7
 go_enter Tryz.func133,Tryz.ntmps133
 iterate 9 go_step
 refine list_at (fun W=>RBx w W F A c now s [] (.int .i64 (kindOf B:Nat)) (.string hb0) (.slice a0 n0 cap0) (.bool cl0) (.bool la0)) X.out ?_
 rintro W hX
 have HXX:=hide hX
 have hz:=hX.lt
 obtain ⟨y0,y1,y2,y3,y4⟩:=hX.hrd.cell
 have H0:=hide hX.at'
 have B0:=hide ((RB.refl A w).below lob lsb hX.bel)
 have V0:=hide hX.ev
 have d1:=hX.at'.lst
 have d2:=hX.at'.ptr
 have c0:=hX.at'.mode
 have c10:=hX.at'.block
 have f0:=hX.at'.zsb 0
 have f10:=hX.at'.zsb 10
 have n1:=hX.at'.ok.h3
 have n2:=hX.at'.ok.h5
 have n1':=Ne.symm n1
 have n2':=Ne.symm n2
 clear hX X
 have hm:=Zhm.out
 have h7:=Zh7.out
 have HM:=hide hm
 have HQ:=hide (HBD.out.que (Or.inl hm))
 clear hm
 have HE:Hid (rbidding c now A.i s B = some (rsendBlk c now { s with mode:=2,block:=0,tries:=1,off:=0,free:=false })):=by unfold Hid rbidding; rw [if_pos h7]
 rw [h7] at y0
 clear h7
 go_wp2_with fail
 refine (begins_any F A c now _ [] _ ((H0.out.mode' 2).block' 0)).mono ?_
 rintro e w1 ⟨rfl,h1,b1⟩
 have H1:=hide h1
 have B1:=hide ((((RB.refl A W).setS H.out.ok.h6 0 _).setS H.out.ok.h6 10 _).trans b1)
 clear h1 b1 y0 y1 y2 y3 y4 d1 d2 c0 c10 f0 f10
 go_wp2_with fail
 refine (block_any F A c now _ [] _ H1.out HBD.out.ok HQ.out (HBD.out.fit _ (by cases hq:s.q with | nil=>exact absurd hq HQ.out | cons a l=>simp)) (nblk_one _ HBD.out.ok)).mono ?_
 rintro e w2 ⟨rfl,h2,b2⟩
 have B3:=hide (B0.out.trans (B1.out.trans b2))
 have V3:=hide (Ev0.rb V0.out (B1.out.trans b2) (by omega) (by omega))
 have H3:=hide h2
 clear h2 b2
 obtain ⟨⟨x0,x1,x2,x3,x4,x5⟩,q0,q1,q2,q3,q4,q5⟩:=Ev0.all V3.out
 go_wp2
 (try simp only [Exit.inBlock,Exit.then])
 refine bodyPost_ret (results_evb rfl _ _ (w.heap.size + 1) rfl (EvAt.all V3.out)) rfl ?_
 exact rnames_end (d:=rsendBlk c now { s with mode:=2,block:=0,tries:=1,off:=0,free:=false }) (b:=true) H3.out B3.out (fun _ k=>Or.inl k) (fun k=>absurd (HF.out _ k) (by omega)) (by omega) H.out rfl (fun _=>HE.out) (fun k=>(by cases k))
theorem rbid_later (F:Nat → Prop) (A:RAd) (c:Cfg) (now:Nat) (s:RS) (B:Ans) (x:Value) (w:World) (h:RAt w F A c now s []) (hF:∀ g,F g → g < w.heap.size) (hx:RHrd w F x B) (hb:RBd c now A.i s) (hm:s.mode = 1) (h9:kindOf B = 9) :
  Calls Tryz.prog 133 #[.pointer (some ⟨A.yb,0,none⟩),.int .i64 A.i,x] w fun e w'=>RNames w F A c now s (rbidding c now A.i s B) e w':=by
 have hi:=h.ok.i
 have lsb:=h.lsb
 have lyb:=h.lyb
 have lsl:=h.lsl
 have lob:=h.lob
 have HX:=hide hx
 have HBD:=hide hb
 have hq8:=hb.q8
 obtain ⟨hb0,a0,n0,cap0,cl0,la0,rfl⟩:=hx.form
 have H:=hide h
 have HF:=hide hF
 have X:=hide (RBx.mk' (x0:=.int .i64 (kindOf B:Nat)) (x1:=.string hb0) (x2:=.slice a0 n0 cap0) (x3:=.bool cl0) (x4:=.bool la0) h)
 clear h hx hF hb
 have Zhm:=hide hm
 clear hm
 have Zh9:=hide h9
 clear h9
 go_enter Tryz.func133,Tryz.ntmps133
 iterate 9 go_step
 refine list_at (fun W=>RBx w W F A c now s [] (.int .i64 (kindOf B:Nat)) (.string hb0) (.slice a0 n0 cap0) (.bool cl0) (.bool la0)) X.out ?_
 rintro W hX
 have HXX:=hide hX
 have hz:=hX.lt
 obtain ⟨y0,y1,y2,y3,y4⟩:=hX.hrd.cell
 have H0:=hide hX.at'
 have B0:=hide ((RB.refl A w).below lob lsb hX.bel)
 have V0:=hide hX.ev
 have d1:=hX.at'.lst
 have d2:=hX.at'.ptr
 have c0:=hX.at'.mode
 have c10:=hX.at'.block
 have f0:=hX.at'.zsb 0
 have f10:=hX.at'.zsb 10
 have n1:=hX.at'.ok.h3
 have n2:=hX.at'.ok.h5
 have n1':=Ne.symm n1
 have n2':=Ne.symm n2
 clear hX X
 have hm:=Zhm.out
 have h9:=Zh9.out
 have HM:=hide hm
 clear hm
 have HE:Hid (rbidding c now A.i s B = some (rdlater c now A.i s)):=by unfold Hid rbidding; rw [if_neg (by omega),if_pos h9]
 rw [h9] at y0
 clear h9
 go_wp2_with fail
 refine (later_any F A c now s [] _ H0.out (fun g k=>by have:=HF.out g k; omega) HBD.out.qj HBD.out.jm (by omega) (by have:=HBD.out.off (Or.inl HM.out); omega) _ rfl).mono ?_
 rintro e w1 ⟨rfl,h1,b1⟩
 have B3:=hide (B0.out.trans b1)
 have V3:=hide (Ev0.rb V0.out b1 (by omega) (by omega))
 have H3:=hide h1
 obtain ⟨ek,est,en,eh,et,ec,hev⟩:=evV_form (rlater c now A.i s).2
 have HEV:=hide hev
 rw [hev]
 have hzz:w.heap.size + 1 < w1.heap.size:=by have:=b1.size; omega
 have hzn:w.heap.size + 1 ≠ w1.heap.size:=by omega
 clear h1 b1 hev y0 y1 y2 y3 y4 d1 d2 c0 c10 f0 f10
 have EA:∀ o,Ev0 (w1.alloc o) (w.heap.size + 1):=fun o=>EvAt.alloc V3.out o
 have x0:=fun o=>(EA o).all.1.1
 have x1:=fun o=>(EA o).all.1.2.1
 have x2:=fun o=>(EA o).all.1.2.2.1
 have x3:=fun o=>(EA o).all.1.2.2.2.1
 have x4:=fun o=>(EA o).all.1.2.2.2.2.1
 have x5:=fun o=>(EA o).all.1.2.2.2.2.2
 have q0:=fun o=>(EA o).all.2.1
 have q1:=fun o=>(EA o).all.2.2.1
 have q2:=fun o=>(EA o).all.2.2.2.1
 have q3:=fun o=>(EA o).all.2.2.2.2.1
 have q4:=fun o=>(EA o).all.2.2.2.2.2.1
 have q5:=fun o=>(EA o).all.2.2.2.2.2.2
 clear EA hzn hzz
 go_wp2
 (try simp only [Exit.inBlock,Exit.then])
 refine bodyPost_ret (results_evb rfl _ _ (w.heap.size + 1) rfl (EvAt.all (EvAt.alloc V3.out _))) rfl ?_
 exact rnames_end (d:=((rlater c now A.i s).1,(if s.off + 1 > c.waits ∧ s.mode = 2 then shortB 5 else []),(rlater c now A.i s).2)) (b:=true) (RAt.below H3.out (Below.allocN (Below.refl _ _) _)) (B3.out.below H3.out.lob H3.out.lsb (Below.allocN (Below.refl _ _) _)) (Plus.sub B0.out.size) (fun k=>k.elim (fun y=>absurd (HF.out _ y) (by omega)) (fun y=>by omega)) (by omega) H.out (by rw [show evV _ = _ from HEV.out]; rfl) (fun _=>by rw [HE.out,rdlater_eq]) (fun k=>(by cases k))
theorem rbid_ans (F:Nat → Prop) (A:RAd) (c:Cfg) (now:Nat) (s:RS) (B:Ans) (x:Value) (w:World) (h:RAt w F A c now s []) (hF:∀ g,F g → g < w.heap.size) (hx:RHrd w F x B) (hb:RBd c now A.i s) (hm:s.mode = 1) (h3:kindOf B = 3 ∧ A.i = 1) :
  Calls Tryz.prog 133 #[.pointer (some ⟨A.yb,0,none⟩),.int .i64 A.i,x] w fun e w'=>RNames w F A c now s (rbidding c now A.i s B) e w':=by
 have hi:=h.ok.i
 have lsb:=h.lsb
 have lyb:=h.lyb
 have lsl:=h.lsl
 have lob:=h.lob
 have HX:=hide hx
 have HBD:=hide hb
 have hq8:=hb.q8
 obtain ⟨hb0,a0,n0,cap0,cl0,la0,rfl⟩:=hx.form
 have H:=hide h
 have HF:=hide hF
 have X:=hide (RBx.mk' (x0:=.int .i64 (kindOf B:Nat)) (x1:=.string hb0) (x2:=.slice a0 n0 cap0) (x3:=.bool cl0) (x4:=.bool la0) h)
 clear h hx hF hb
 have Zhm:=hide hm
 clear hm
 have Zh3:=hide h3
 clear h3
 go_enter Tryz.func133,Tryz.ntmps133
 iterate 9 go_step
 refine list_at (fun W=>RBx w W F A c now s [] (.int .i64 (kindOf B:Nat)) (.string hb0) (.slice a0 n0 cap0) (.bool cl0) (.bool la0)) X.out ?_
 rintro W hX
 have HXX:=hide hX
 have hz:=hX.lt
 obtain ⟨y0,y1,y2,y3,y4⟩:=hX.hrd.cell
 have H0:=hide hX.at'
 have B0:=hide ((RB.refl A w).below lob lsb hX.bel)
 have V0:=hide hX.ev
 have d1:=hX.at'.lst
 have d2:=hX.at'.ptr
 have c0:=hX.at'.mode
 have c10:=hX.at'.block
 have f0:=hX.at'.zsb 0
 have f10:=hX.at'.zsb 10
 have n1:=hX.at'.ok.h3
 have n2:=hX.at'.ok.h5
 have n1':=Ne.symm n1
 have n2':=Ne.symm n2
 clear hX X
 have hm:=Zhm.out
 have h3:=Zh3.out
 have HM:=hide hm
 clear hm
 have HE:Hid (rbidding c now A.i s B = some (rdanswers c now s)):=by unfold Hid rbidding; rw [if_neg (by omega),if_neg (by omega),if_pos h3]
 have i1:((A.i:Int) == 1) = true:=by simp [h3.2]
 rw [h3.1] at y0
 clear h3
 go_wp2_with fail
 refine (answers_any F A c now s [] _ H0.out).mono ?_
 rintro e w1 ⟨rfl,h1,b1⟩
 have B3:=hide (B0.out.trans b1)
 have V3:=hide (Ev0.rb V0.out b1 (by omega) (by omega))
 have H3:=hide h1
 clear h1 b1 y0 y1 y2 y3 y4 d1 d2 c0 c10 f0 f10
 obtain ⟨⟨x0,x1,x2,x3,x4,x5⟩,q0,q1,q2,q3,q4,q5⟩:=Ev0.all V3.out
 go_wp2
 (try simp only [Exit.inBlock,Exit.then])
 refine bodyPost_ret (results_evb rfl _ _ (w.heap.size + 1) rfl (EvAt.all V3.out)) rfl ?_
 exact rnames_end (d:=rdanswers c now s) (b:=true) H3.out B3.out (fun _ k=>Or.inl k) (fun k=>absurd (HF.out _ k) (by omega)) (by omega) H.out rfl (fun _=>HE.out) (fun k=>(by cases k))
theorem rbid_none (F:Nat → Prop) (A:RAd) (c:Cfg) (now:Nat) (s:RS) (B:Ans) (x:Value) (w:World) (h:RAt w F A c now s []) (hF:∀ g,F g → g < w.heap.size) (hx:RHrd w F x B) (hb:RBd c now A.i s) (hm:s.mode = 1) (h7:¬ kindOf B = 7) (h9:¬ kindOf B = 9) (h3:¬ (kindOf B = 3 ∧ A.i = 1)) :
  Calls Tryz.prog 133 #[.pointer (some ⟨A.yb,0,none⟩),.int .i64 A.i,x] w fun e w'=>RNames w F A c now s (rbidding c now A.i s B) e w':=by
 have hi:=h.ok.i
 have lsb:=h.lsb
 have lyb:=h.lyb
 have lsl:=h.lsl
 have lob:=h.lob
 have HX:=hide hx
 have HBD:=hide hb
 have hq8:=hb.q8
 obtain ⟨hb0,a0,n0,cap0,cl0,la0,rfl⟩:=hx.form
 have H:=hide h
 have HF:=hide hF
 have X:=hide (RBx.mk' (x0:=.int .i64 (kindOf B:Nat)) (x1:=.string hb0) (x2:=.slice a0 n0 cap0) (x3:=.bool cl0) (x4:=.bool la0) h)
 clear h hx hF hb
 have Zhm:=hide hm
 clear hm
 have Zh7:=hide h7
 clear h7
 have Zh9:=hide h9
 clear h9
 have Zh3:=hide h3
 clear h3
 go_enter Tryz.func133,Tryz.ntmps133
 iterate 9 go_step
 refine list_at (fun W=>RBx w W F A c now s [] (.int .i64 (kindOf B:Nat)) (.string hb0) (.slice a0 n0 cap0) (.bool cl0) (.bool la0)) X.out ?_
 rintro W hX
 have HXX:=hide hX
 have hz:=hX.lt
 obtain ⟨y0,y1,y2,y3,y4⟩:=hX.hrd.cell
 have H0:=hide hX.at'
 have B0:=hide ((RB.refl A w).below lob lsb hX.bel)
 have V0:=hide hX.ev
 have d1:=hX.at'.lst
 have d2:=hX.at'.ptr
 have c0:=hX.at'.mode
 have c10:=hX.at'.block
 have f0:=hX.at'.zsb 0
 have f10:=hX.at'.zsb 10
 have n1:=hX.at'.ok.h3
 have n2:=hX.at'.ok.h5
 have n1':=Ne.symm n1
 have n2':=Ne.symm n2
 clear hX X
 have hm:=Zhm.out
 have h7:=Zh7.out
 have h9:=Zh9.out
 have h3:=Zh3.out
 have HM:=hide hm
 clear hm
 have HE:Hid (rbidding c now A.i s B = none):=by unfold Hid rbidding; rw [if_neg h7,if_neg h9,if_neg h3]
 have m7:((kindOf B:Int) == 7) = false:=by simp; omega
 have m9:((kindOf B:Int) == 9) = false:=by simp; omega
 by_cases h4:kindOf B = 3
 ·have i1:((A.i:Int) == 1) = false:=by simp; omega
  rw [h4] at y0
  clear m7 m9 h3 h7 h9 h4
  have V3:=V0
  clear d1 d2 c0 c10 f0 f10
  obtain ⟨⟨x0,x1,x2,x3,x4,x5⟩,q0,q1,q2,q3,q4,q5⟩:=Ev0.all V3.out
  go_wp2
  (try simp only [Exit.inBlock,Exit.then])
  refine bodyPost_ret (results_evb rfl _ _ (w.heap.size + 1) rfl (EvAt.all V3.out)) rfl ?_
  exact rnames_end (d:=(s,[],none)) (b:=false) H0.out B0.out (fun _ k=>Or.inl k) (fun k=>absurd (HF.out _ k) (by omega)) (by omega) H.out rfl (fun k=>(by cases k)) (fun _=>⟨HE.out,rfl,H0.out,fun k=>absurd (HF.out _ k) (by omega)⟩)
 ·have m3:((kindOf B:Int) == 3) = false:=by simp; omega
  clear h3 h7 h9 h4
  have V3:=V0
  clear d1 d2 c0 c10 f0 f10
  obtain ⟨⟨x0,x1,x2,x3,x4,x5⟩,q0,q1,q2,q3,q4,q5⟩:=Ev0.all V3.out
  go_wp2
  (try simp only [Exit.inBlock,Exit.then])
  refine bodyPost_ret (results_evb rfl _ _ (w.heap.size + 1) rfl (EvAt.all V3.out)) rfl ?_
  exact rnames_end (d:=(s,[],none)) (b:=false) H0.out B0.out (fun _ k=>Or.inl k) (fun k=>absurd (HF.out _ k) (by omega)) (by omega) H.out rfl (fun k=>(by cases k)) (fun _=>⟨HE.out,rfl,H0.out,fun k=>absurd (HF.out _ k) (by omega)⟩)
theorem rbidding_any (F:Nat → Prop) (A:RAd) (c:Cfg) (now:Nat) (s:RS) (B:Ans) (x:Value) (w:World) (h:RAt w F A c now s []) (hF:∀ g,F g → g < w.heap.size) (hx:RHrd w F x B) (hb:RBd c now A.i s) (hm:s.mode = 1) :
  Calls Tryz.prog 133 #[.pointer (some ⟨A.yb,0,none⟩),.int .i64 A.i,x] w fun e w'=>RNames w F A c now s (rbidding c now A.i s B) e w':=by
 by_cases h7:kindOf B = 7
 ·exact rbid_send F A c now s B x w h hF hx hb hm h7
 ·by_cases h9:kindOf B = 9
  ·exact rbid_later F A c now s B x w h hF hx hb hm h9
  ·by_cases h3:kindOf B = 3 ∧ A.i = 1
   ·exact rbid_ans F A c now s B x w h hF hx hb hm h3
   ·exact rbid_none F A c now s B x w h hF hx hb hm h7 h9 h3
end Go.Proofs.YtlbpjcphhocdkaaGreat
