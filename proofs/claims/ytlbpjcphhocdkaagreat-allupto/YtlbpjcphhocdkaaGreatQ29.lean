/- The document's station, sending. The document's station: its methods by mode. Plain: blocks joined one by one. The document's joined: the message that blocks make. -/
import Derived.Test.YtlbpjcphhocdkaaGreatQ20
import Derived.Test.YtlbpjcphhocdkaaGreatQ21
import Derived.Test.YtlbpjcphhocdkaaGreatQ22
import Derived.Test.YtlbpjcphhocdkaaGreatQ23
import Derived.Test.YtlbpjcphhocdkaaGreatQ24
import Derived.Test.YtlbpjcphhocdkaaGreatQ25
import Derived.Test.YtlbpjcphhocdkaaGreatQ26
import Derived.Test.YtlbpjcphhocdkaaGreatQ27
import Derived.Test.YtlbpjcphhocdkaaGreatQ28
import Derived.Test.YtlbpjcphhocdkaaGreatQ03
import Derived.Test.YtlbpjcphhocdkaaGreatQ19
import Derived.Test.YtlbpjcphhocdkaaGreatQ08
set_option maxRecDepth 1000000
set_option maxHeartbeats 16000000
namespace Go.Proofs.YtlbpjcphhocdkaaGreat
open Go.RowKit Go.Proofs.YtlbpjcphhocdkaaGreat.Mod Go.Proofs.YtlbpjcphhocdkaaGreat.Pst
theorem rsend_none (F:Nat → Prop) (A:RAd) (c:Cfg) (now:Nat) (s:RS) (B:Ans) (x:Value) (w:World) (h:RAt w F A c now s []) (hF:∀ g,F g → g < w.heap.size) (hx:RHrd w F x B) (hb:RBd c now A.i s) (hm:s.mode = 2) (h1:¬ kindOf B = yesN (s.block + 1)) (h3:¬ (kindOf B = 7 ∨ kindOf B = 8 ∨ kindOf B = 6)) (h5:¬ kindOf B = 9) :
  Calls Tryz.prog 134 #[.pointer (some ⟨A.yb,0,none⟩),.int .i64 A.i,x] w fun e w'=>RNames w F A c now s (rsending c now A.i s B) e w':=by
 have hi:=h.ok.i
 have lsb:=h.lsb
 have lyb:=h.lyb
 have lsl:=h.lsl
 have lob:=h.lob
 have HX:=hide hx
 have HBD:=hide hb
 have hq8:=hb.q8
 obtain ⟨hb0,a0,n0,cap0,cl0,la0,rfl⟩:=hx.form
 have H:=hide h
 have HF:=hide hF
 have X:=hide (RBx.mk' (x0:=.int .i64 (kindOf B:Nat)) (x1:=.string hb0) (x2:=.slice a0 n0 cap0) (x3:=.bool cl0) (x4:=.bool la0) h)
 clear h hx hF hb
 have Zhm:=hide hm
 clear hm
 have Zh1:=hide h1
 clear h1
 have Zh3:=hide h3
 clear h3
 have Zh5:=hide h5
 clear h5
 go_enter Tryz.func134,Tryz.ntmps134
 iterate 9 go_step
 refine list_at (fun W=>RBx w W F A c now s [] (.int .i64 (kindOf B:Nat)) (.string hb0) (.slice a0 n0 cap0) (.bool cl0) (.bool la0)) X.out ?_
 rintro W hX
 have HXX:=hide hX
 have hz:=hX.lt
 obtain ⟨y0,y1,y2,y3,y4⟩:=hX.hrd.cell
 have H0:=hide hX.at'
 have B0:=hide ((RB.refl A w).below lob lsb hX.bel)
 have V0:=hide hX.ev
 have d1:=hX.at'.lst
 have d2:=hX.at'.ptr
 have c0:=hX.at'.mode
 have c10:=hX.at'.block
 have f0:=hX.at'.zsb 0
 have f10:=hX.at'.zsb 10
 have n1:=hX.at'.ok.h3
 have n2:=hX.at'.ok.h5
 have n1':=Ne.symm n1
 have n2':=Ne.symm n2
 clear hX X
 have hm:=Zhm.out
 have h1:=Zh1.out
 have h3:=Zh3.out
 have h5:=Zh5.out
 have HE:Hid (rsending c now A.i s B = none):=by unfold Hid rsending; rw [if_neg h1,if_neg h3,if_neg h5]
 have mw:((kindOf B:Int) == (yesN (s.block + 1):Int)) = false:=by simp only [beq_eq_false_iff_ne,ne_eq]; omega
 have m7:((kindOf B:Int) == 7) = false:=by simp; omega
 have m8:((kindOf B:Int) == 8) = false:=by simp; omega
 have m6:((kindOf B:Int) == 6) = false:=by simp; omega
 have m9:((kindOf B:Int) == 9) = false:=by simp; omega
 have HM:=hide hm
 have hne:=HBD.out.que (Or.inr hm)
 have hblk:=HBD.out.blk hm
 have hfit:MsgFit (s.q.headD noMsg):=HBD.out.fit _ (by cases hq:s.q with | nil=>exact absurd hq hne | cons a l=>simp)
 have HFT:=hide hfit
 have htx:=hfit.2.1
 have hnb:=blk_nblk HBD.out.ok htx
 have hOK:=hide HBD.out.ok
 have hpos:0 < s.q.length:=by cases e:s.q with | nil=>exact absurd e hne | cons a l=>simp
 have hn5:(0:Int) < (s.q.length:Int):=by omega
 have HNE:=hide hne
 have HBK:=hide hblk
 clear hm hfit
 clear h3 h1 h5
 obtain ⟨g,cap,hq,hgl⟩:=Bq.of H0.out hne
 have HQB:=hide hq
 obtain ⟨j0,j1,j2,j3,j4,j5⟩:=hq
 clear hne
 generalize hmm:s.q.headD noMsg = m at *
 have HMM:=hide hmm
 clear hmm
 go_wp2_with fail
 go_region_held3 (fun W=>W.cell? ⟨A.sb,2,none⟩ = some (.slice (some ⟨g,0,none⟩) s.q.length cap) ∧ W.cell? ⟨g,0,none⟩ = some (.string ⟨m.head.toArray⟩) ∧ W.cell? ⟨g,1,none⟩ = some (.string ⟨m.text.toArray⟩) ∧ W.cell? ⟨g,2,none⟩ = some (.bool m.clear) ∧ W.cell? ⟨A.yb,1,none⟩ = some (.int .i64 c.size) ∧ W.cell? ⟨A.yb,2,none⟩ = some (.int .i64 c.parts)) (first | exact HQB.out | exact HQB.out.below (below_drew_head hb1))
  (first | (go_at_call 147; refine (rblocks_any c m _ hOK.out htx).mono ?_; rintro e w1 ⟨v1,vs1,rfl,hG1,hb1⟩))
 have hb1:=below_drew_head hb1
 obtain ⟨ga,gcap,hv1⟩:=hG1.at'.form
 rw [blocks_len] at hv1
 subst hv1
 have H00:=hide (H0.out.below hb1)
 have B00:=hide (B0.out.below H0.out.lob H0.out.lsb hb1)
 have V00:=hide (EvAt.below V0.out hb1)
 have z0:=(hb1.cell (p:=⟨w.heap.size,0,none⟩) (by simp only; omega)).trans y0
 have hz2:w.heap.size + 1 < w1.heap.size:=by have:=hb1.size; omega
 have hz3:=hb1.size
 clear HXX y0 y1 y2 y3 y4 d1 d2 c0 c10 f0 f10 H0 B0 V0 hb1 hG1 j0 j1 j2 j3 j4 j5
 have H0:=H00
 have B0:=B00
 have V0:=V00
 have y0:=z0
 clear H00 B00 V00 z0
 have d1:=H0.out.lst
 have d2:=H0.out.ptr
 have c0:=H0.out.mode
 have c10:=H0.out.block
 have c7:=H0.out.tries
 have c9:=H0.out.free
 have k8:=H0.out.cfg.2.2.2.2.2.2.2.2.1
 have f0:=H0.out.zsb 0
 have f7:=H0.out.zsb 7
 have f9:=H0.out.zsb 9
 have f10:=H0.out.zsb 10
 go_wp2_with fail
 refine (yes_any (s.block + 1) _ (by omega)).mono ?_
 rintro e wz ⟨rfl,hwz⟩
 obtain rfl:=hwz.symm
 have V3:=V0
 clear d1 d2 c0 c10 c7 c9 k8 f0 f7 f9 f10
 obtain ⟨⟨x0,x1,x2,x3,x4,x5⟩,q0,q1,q2,q3,q4,q5⟩:=Ev0.all V3.out
 go_wp2
 (try simp only [Exit.inBlock,Exit.then])
 refine bodyPost_ret (results_evb rfl _ _ (w.heap.size + 1) rfl (EvAt.all V3.out)) rfl ?_
 exact rnames_end (d:=(s,[],none)) (b:=false) H0.out B0.out (fun _ k=>Or.inl k) (fun k=>absurd (HF.out _ k) (by omega)) (by omega) H.out rfl (fun k=>(by cases k)) (fun _=>⟨HE.out,rfl,H0.out,fun k=>absurd (HF.out _ k) (by omega)⟩)
theorem rsending_any (F:Nat → Prop) (A:RAd) (c:Cfg) (now:Nat) (s:RS) (B:Ans) (x:Value) (w:World) (h:RAt w F A c now s []) (hF:∀ g,F g → g < w.heap.size) (hx:RHrd w F x B) (hb:RBd c now A.i s) (hm:s.mode = 2) :
  Calls Tryz.prog 134 #[.pointer (some ⟨A.yb,0,none⟩),.int .i64 A.i,x] w fun e w'=>RNames w F A c now s (rsending c now A.i s B) e w':=by
 by_cases h1:kindOf B = yesN (s.block + 1)
 ·by_cases h2:s.block + 1 = nblk c (s.q.headD noMsg)
  ·exact rsend_end F A c now s B x w h hF hx hb hm h1 h2
  ·exact rsend_next F A c now s B x w h hF hx hb hm h1 h2
 ·by_cases h3:kindOf B = 7 ∨ kindOf B = 8 ∨ kindOf B = 6
  ·by_cases h4:s.tries > c.tries
   ·rcases h3 with h3 | h3 | h3
    ·exact rsend_fail7 F A c now s B x w h hF hx hb hm h1 h3 h4
    ·exact rsend_fail8 F A c now s B x w h hF hx hb hm h1 h3 h4
    ·exact rsend_fail6 F A c now s B x w h hF hx hb hm h1 h3 h4
   ·rcases h3 with h3 | h3 | h3
    ·exact rsend_again7 F A c now s B x w h hF hx hb hm h1 h3 h4
    ·exact rsend_again8 F A c now s B x w h hF hx hb hm h1 h3 h4
    ·exact rsend_again6 F A c now s B x w h hF hx hb hm h1 h3 h4
  ·by_cases h5:kindOf B = 9
   ·exact rsend_later F A c now s B x w h hF hx hb hm h1 h5
   ·exact rsend_none F A c now s B x w h hF hx hb hm h1 h3 h5
end Go.Proofs.YtlbpjcphhocdkaaGreat
namespace Go.Proofs.YtlbpjcphhocdkaaGreat.Mod
theorem take_snoc {α:Type} (l:List α) (k:Nat) (hk:k < l.length):l.take (k + 1) = l.take k ++ [l[k]]:=by
 rw [List.take_add_one,List.getElem?_eq_getElem hk]; rfl
theorem joined_app (l r:List Bk):(joinedM (l ++ r)).head = (joinedM l).head ++ (joinedM r).head ∧ (joinedM (l ++ r)).text = (joinedM l).text ++ (joinedM r).text:=by
 simp [joinedM]
theorem jm_head (l:List Bk) (k:Nat) (hk:k < l.length):(joinedM (l.take (k + 1))).head = (joinedM (l.take k)).head ++ l[k].head:=by
 rw [take_snoc l k hk,(joined_app _ _).1]; simp [joinedM]
theorem jm_text (l:List Bk) (k:Nat) (hk:k < l.length):(joinedM (l.take (k + 1))).text = (joinedM (l.take k)).text ++ l[k].parts.flatten:=by
 rw [take_snoc l k hk,(joined_app _ _).2]; simp [joinedM]
theorem jm_clear (l:List Bk) (k:Nat) (hk:k < l.length):(joinedM (l.take (k + 1))).clear = l[k].clear:=by
 unfold joinedM; simp only [take_snoc l k hk,List.getLast?_concat,Option.map_some,Option.getD_some]
theorem jm_le (l:List Bk) (k:Nat):(joinedM (l.take k)).head.length ≤ (joinedM l).head.length ∧ (joinedM (l.take k)).text.length ≤ (joinedM l).text.length:=by
 have h:=joined_app (l.take k) (l.drop k)
 rw [List.take_append_drop] at h
 rw [h.1,h.2]
 simp
theorem flat_snoc (ps:List (List UInt8)) (t:Nat) (ht:t < ps.length):(ps.take (t + 1)).flatten = (ps.take t).flatten ++ ps[t]:=by
 rw [take_snoc ps t ht,List.flatten_append,List.flatten_cons,List.flatten_nil,List.append_nil]
theorem flat_le (ps:List (List UInt8)) (t:Nat):(ps.take t).flatten.length ≤ ps.flatten.length:=by
 have h:ps.flatten = (ps.take t).flatten ++ (ps.drop t).flatten:=by rw [← List.flatten_append,List.take_append_drop]
 rw [h]; simp
end Go.Proofs.YtlbpjcphhocdkaaGreat.Mod
namespace Go.Proofs.YtlbpjcphhocdkaaGreat
open Go.RowKit Go.Proofs.YtlbpjcphhocdkaaGreat.Mod Go.Proofs.YtlbpjcphhocdkaaGreat.Pst
/-- A message's block. -/
def M3 (w:World) (g:Nat) (hd tx:ByteArray) (cl:Bool):Prop:=w.heap[g]? = some (.cells #[.string hd,.string tx,.bool cl] 60 (0,0))
theorem M3.cells {w:World} {g:Nat} {hd tx:ByteArray} {cl:Bool} (k:M3 w g hd tx cl):w.cell? ⟨g,0,none⟩ = some (.string hd) ∧ w.cell? ⟨g,1,none⟩ = some (.string tx) ∧ w.cell? ⟨g,2,none⟩ = some (.bool cl):=by unfold M3 at k; simp [World.cell?,k]
theorem M3.fz {w:World} {g:Nat} {hd tx:ByteArray} {cl:Bool} (k:M3 w g hd tx cl) (i:Nat):w.frozen? ⟨g,i,none⟩ = false:=Go.Joins.unfrozen_of_block k i
theorem M3.set0 {w:World} {g:Nat} {hd tx hd':ByteArray} {cl:Bool} (k:M3 w g hd tx cl):M3 (w.setCell ⟨g,0,none⟩ (.string hd')) g hd' tx cl:=Go.Joins.block_setCell (i:=0) k _
theorem M3.set1 {w:World} {g:Nat} {hd tx tx':ByteArray} {cl:Bool} (k:M3 w g hd tx cl):M3 (w.setCell ⟨g,1,none⟩ (.string tx')) g hd tx' cl:=Go.Joins.block_setCell (i:=1) k _
theorem M3.set2 {w:World} {g:Nat} {hd tx:ByteArray} {cl cl':Bool} (k:M3 w g hd tx cl):M3 (w.setCell ⟨g,2,none⟩ (.bool cl')) g hd tx cl':=Go.Joins.block_setCell (i:=2) k _
theorem M3.other {w:World} {g h i:Nat} {hd tx:ByteArray} {cl:Bool} {x:Value} (k:M3 w g hd tx cl) (hn:g ≠ h):M3 (w.setCell ⟨h,i,none⟩ x) g hd tx cl:=(Below.heap_setCell _ _ _ _ hn).trans k
theorem results_m3 {fn:Func} {k:Tmp} (hf:fn.results = #[.cell k 60]) (tmps:Array Value) (w:World) (g:Nat) {hd tx:ByteArray} {cl:Bool} (ht:tmps.getD k undef = .pointer (some ⟨g,0,none⟩)) (hb:M3 w g hd tx cl) :
  (results fn tmps).run Tryz.prog w = .ok (.agg #[.string hd,.string tx,.bool cl]) w:=by
 obtain ⟨c0,c1,c2⟩:=hb.cells
 simp only [Array.getD_eq_getD_getElem?] at ht
 simp [results,hf,ht,go_sem,c0,c1,c2]
/-- All of the message's block,and that nothing older changed. -/
structure JW (w W:World) (hd tx:ByteArray) (cl:Bool):Prop where
 a:M3 W (w.heap.size + 1) hd tx cl
 z:M3 W w.heap.size ⟨#[]⟩ ⟨#[]⟩ false
 b:Below w.heap.size w W
theorem JW.set0 {w W:World} {hd tx hd':ByteArray} {cl:Bool} (h:JW w W hd tx cl):JW w (W.setCell ⟨w.heap.size + 1,0,none⟩ (.string hd')).drew hd' tx cl:=⟨h.a.set0,h.z.other (by omega),(h.b.setCell (by simp only; omega) _).drew⟩
theorem JW.set1 {w W:World} {hd tx tx':ByteArray} {cl:Bool} (h:JW w W hd tx cl):JW w (W.setCell ⟨w.heap.size + 1,1,none⟩ (.string tx')).drew hd tx' cl:=⟨h.a.set1,h.z.other (by omega),(h.b.setCell (by simp only; omega) _).drew⟩
theorem JW.set2 {w W:World} {hd tx:ByteArray} {cl cl':Bool} (h:JW w W hd tx cl):JW w (W.setCell ⟨w.heap.size + 1,2,none⟩ (.bool cl')) hd tx cl':=⟨h.a.set2,h.z.other (by omega),h.b.setCell (by simp only; omega) _⟩
theorem JW.new (w:World):JW w ((w.alloc (.cells #[.string ⟨#[]⟩,.string ⟨#[]⟩,.bool false] 60)).alloc (.cells #[.string ⟨#[]⟩,.string ⟨#[]⟩,.bool false] 60)) ⟨#[]⟩ ⟨#[]⟩ false:=by
 refine ⟨?_,?_,Below.allocN (Below.allocN (Below.refl _ _) _) _⟩
 ·have:=heap_alloc_new (w.alloc (.cells #[.string ⟨#[]⟩,.string ⟨#[]⟩,.bool false] 60)) (.cells #[.string ⟨#[]⟩,.string ⟨#[]⟩,.bool false] 60)
  rw [show (w.alloc (.cells #[.string ⟨#[]⟩,.string ⟨#[]⟩,.bool false] 60)).heap.size = w.heap.size + 1 by simp] at this
  exact this
 ·exact (Below.heap_alloc _ _ _ (by simp)).trans (heap_alloc_new w _)
theorem joined_any (F:Nat → Prop) (v:Value) (l:List Bk) (w:World) (h:GAt w F v l) (hl:l.length ≤ 1000000000002) (hh:(joinedM l).head.length ≤ 1000) (ht:(joinedM l).text.length ≤ 1000) :
  Calls Tryz.prog 155 #[v] w fun e w'=>e = .returned (msgV (joinedM l)) ∧ Below w.heap.size w w':=by
 obtain ⟨a,cap,rfl⟩:=h.form
 have H:=hide h
 have HJW:=hide (JW.new w)
 have HHH:=hide hh
 have HTT:=hide ht
 clear h hh ht
 go_enter Tryz.func155,Tryz.ntmps155
 go_wp2
 go_loopw [4] (fun i wr=>∃ (k:Nat) (hd tx:ByteArray) (cl:Bool),i = .int .i64 k ∧ k ≤ l.length ∧ Hid (Is hd (joinedM (l.take k)).head) ∧ Hid (Is tx (joinedM (l.take k)).text) ∧ Hid (cl = (joinedM (l.take k)).clear) ∧ JW w wr hd tx cl) (fun i _=>l.length - (intOf i).toNat)
 case atStart=>exact ⟨0,_,_,_,rfl,Nat.zero_le _,rfl,rfl,rfl,HJW.out⟩
 case round =>
  generalize wr = W1 at *
  obtain ⟨k,hd,tx,cl,rfl,hk,HI1,HI2,HI3,hJ⟩:=hrel
  have HJ:=hide hJ
  obtain ⟨y0,y1,y2⟩:=hJ.a.cells
  have hz1:=hJ.a.fz 0
  have hz2:=hJ.a.fz 1
  have hz3:=hJ.a.fz 2
  by_cases hlt:k < l.length
  ·obtain ⟨g,gc,ap,cp,ps,ge,gF,gl,c0,c1,c2,c3,htx,hps,hmx,hpb⟩:=H.out.get hlt
   simp only [Value.slice.injEq,true_and] at ge
   obtain ⟨rfl,rfl⟩:=ge
   have hsh:hd.size ≤ 1000:=by rw [HI1.out.size]; have:=(jm_le l k).1; have:=HHH.out; omega
   have HK:=hide hlt
   have HPS:=hide hps
   have HTX:=hide htx
   have HJH:=hide (jm_head l k hlt)
   have HJT:=hide (jm_text l k hlt)
   have HJC:=hide (jm_clear l k hlt)
   have HLE:=hide (jm_le l (k + 1))
   generalize hb:l[k] = b at *
   obtain ⟨hb2,HB2,hbs⟩:∃ x:ByteArray,Hid (Is x b.head) ∧ x = ⟨b.head.toArray⟩:=⟨_,rfl,rfl⟩
   rw [← hbs] at c0
   have hbz:hb2.size ≤ 1000:=by rw [HB2.out.size]; have h1:=congrArg List.length HJH.out; rw [List.length_append] at h1; have:=HLE.out.1; have:=HHH.out; omega
   have e0:=(hJ.b.cell (p:=⟨g,k * 4,none⟩) gl).trans c0
   have hlt':(k:Int) < (l.length:Int):=by omega
   have hgne:g ≠ w.heap.size + 1:=by omega
   have hadd:∀ W,(Op.stringOp .add hd hb2).run Tryz.prog W = .ok (.string (hd ++ hb2)) W:=fun W=>run_string_add_sum W hd hb2 (by omega)
   have HGE:=hide hbs
   have HBB:=hide hb
   clear hJ hps htx hbs hb hlt
   go_wp2_with fail
   go_region
   refine exit_at (fun W=>JW w W (hd ++ hb2) tx cl) HJ.out.set0 ?_
   rintro W2 hJ2
   clear y0 y1 y2 e0 hz1 hz2 hz3
   have e2:=(hJ2.b.cell (p:=⟨g,k * 4 + 2,none⟩) gl).trans c2
   obtain ⟨y0,y1,y2⟩:=hJ2.a.cells
   have hz3:=hJ2.a.fz 2
   have HJ2:=hide hJ2
   clear hJ2
   go_wp2
   go_loopw [5] (fun j wr=>∃ (t:Nat) (tx2:ByteArray),j = .int .i64 t ∧ t ≤ ps.length ∧ Hid (Is tx2 ((joinedM (l.take k)).text ++ (b.parts.take t).flatten)) ∧ JW w wr (hd ++ hb2) tx2 b.clear) (fun j _=>ps.length - (intOf j).toNat)
   case atStart=>exact ⟨0,tx,rfl,Nat.zero_le _,by simpa [Hid] using HI2.out,HJ2.out.set2⟩
   case round =>
    generalize wr = W3 at *
    obtain ⟨t,tx2,rfl,ht2,HI4,hJ3⟩:=hrel
    have HJ3:=hide hJ3
    have e1:=(hJ3.b.cell (p:=⟨g,k * 4 + 1,none⟩) gl).trans c1
    obtain ⟨x0,x1,x2⟩:=hJ3.a.cells
    have hz2:=hJ3.a.fz 1
    by_cases hlt2:t < ps.length
    ·obtain ⟨pb,po,rfl,hcl⟩:∃ pb po,ap = some ⟨pb,po,none⟩ ∧ ∀ i,i < ps.length → w.cell? ⟨pb,po + i,none⟩ = some (.string (ps.getD i ByteArray.empty)):=by
      rcases HTX.out with h | h
      ·subst h; simp at hlt2
      ·exact h
     have hc2:=hcl t hlt2
     have hpl:pb < w.heap.size:=World.block_lt_of_cell? w _ hc2
     have e3:=(hJ3.b.cell (p:=⟨pb,po + t,none⟩) hpl).trans hc2
     have HPT:Hid (Is (ps.getD t ByteArray.empty) ((b.parts)[t]'(by rw [← HPS.out,datas_length]; exact hlt2))):=by
      have:((b.parts)[t]'(by rw [← HPS.out,datas_length]; exact hlt2)) = (ps.getD t ByteArray.empty).data.toList:=by
       have h1:=datas_getD ps t
       rw [HPS.out] at h1
       rw [← h1]
       simp [List.getD,List.getElem?_eq_getElem (show t < b.parts.length by rw [← HPS.out,datas_length]; exact hlt2)]
      rw [this]
      exact (by simp [Hid,Is])
     have HFS:Hid ((b.parts.take (t + 1)).flatten = (b.parts.take t).flatten ++ ((b.parts)[t]'(by rw [← HPS.out,datas_length]; exact hlt2))):=flat_snoc b.parts t _
     have HFL:=hide (flat_le b.parts (t + 1))
     have hJL:(joinedM (l.take k)).text.length + b.parts.flatten.length ≤ 1000:=by have h1:=congrArg List.length HJT.out; rw [List.length_append] at h1; have:=HLE.out.2; have:=HTT.out; omega
     have hs1:tx2.size ≤ 1000:=by rw [HI4.out.size,List.length_append]; have:=flat_le b.parts t; omega
     have hs2:(ps.getD t ByteArray.empty).size ≤ 1000:=by rw [HPT.out.size]; have h1:=congrArg List.length HFS.out; rw [List.length_append] at h1; have:=HFL.out; omega
     generalize hr:ps.getD t ByteArray.empty = r at *
     have HR:=hide hr
     have HIN:Hid (Is (tx2 ++ r) ((joinedM (l.take k)).text ++ (b.parts.take (t + 1)).flatten)):=by rw [HFS.out,← List.append_assoc]; exact HI4.out.append HPT.out
     have hlt3:(t:Int) < (ps.length:Int):=by omega
     have hadd2:∀ W,(Op.stringOp .add tx2 r).run Tryz.prog W = .ok (.string (tx2 ++ r)) W:=fun W=>run_string_add_sum W tx2 r (by omega)
     clear hJ3 hcl hc2 hr
     go_wp2_with fail
     go_region
     have hJ4:=HJ3.out.set1 (tx':=tx2 ++ r)
     generalize (W3.setCell ⟨w.heap.size + 1,1,none⟩ (.string (tx2 ++ r))).drew = W4 at hJ4 ⊢
     clear x0 x1 x2 e1 e3
     go_wp2
     go_roundw
     case rel=>exact ⟨t + 1,tx2 ++ r,by go_num,by omega,HIN,hJ4⟩
     case measure=>simp [intOf]; omega
    ·have hlt3:¬ (t:Int) < (ps.length:Int):=by omega
     have HTT2:Hid (b.parts.take t = b.parts):=List.take_of_length_le (by rw [← HPS.out,datas_length]; omega)
     go_wp2
     go_roundw
     case rel=>exact ⟨k + 1,hd ++ hb2,tx2,b.clear,by go_num,by have:=HK.out; omega,by rw [Hid,HJH.out]; exact HI1.out.append HB2.out,by rw [Hid,HJT.out]; have:=HI4.out; rw [HTT2.out] at this; exact this,HJC.out.symm,hJ3⟩
     case measure=>simp [intOf]; omega
  ·have hlt':¬ (k:Int) < (l.length:Int):=by omega
   have HE:Hid (l.take k = l):=List.take_of_length_le (by omega)
   rw [HE.out] at HI1 HI2 HI3
   obtain ⟨x0,x1,x2⟩:=hJ.z.cells
   have z0:=hJ.z.fz 0
   have z1:=hJ.z.fz 1
   have z2:=hJ.z.fz 2
   clear hJ
   go_wp2
   (try simp only [Exit.inBlock,Exit.then])
   refine bodyPost_ret (results_m3 (hd:=hd) (tx:=tx) (cl:=cl) rfl _ _ w.heap.size rfl ?_) rfl ?_
   ·exact ((HJ.out.z.set0).set1).set2
   ·refine ⟨?_,((HJ.out.b.setCell (by simp) _).setCell (by simp) _).setCell (by simp) _⟩
    unfold msgV
    rw [← (show hd = _ from HI1.out),← (show tx = _ from HI2.out),← HI3.out]
end Go.Proofs.YtlbpjcphhocdkaaGreat
