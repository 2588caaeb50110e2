/- The document's station, sending. -/
import Derived.Test.YtlbpjcphhocdkaaGreatQ20
set_option maxRecDepth 1000000
set_option maxHeartbeats 16000000
namespace Go.Proofs.YtlbpjcphhocdkaaGreat
open Go.RowKit Go.Proofs.YtlbpjcphhocdkaaGreat.Mod Go.Proofs.YtlbpjcphhocdkaaGreat.Pst
theorem rsend_later (F:Nat → Prop) (A:RAd) (c:Cfg) (now:Nat) (s:RS) (B:Ans) (x:Value) (w:World) (h:RAt w F A c now s []) (hF:∀ g,F g → g < w.heap.size) (hx:RHrd w F x B) (hb:RBd c now A.i s) (hm:s.mode = 2) (h1:¬ kindOf B = yesN (s.block + 1)) (h5:kindOf B = 9) :
  Calls Tryz.prog 134 #[.pointer (some ⟨A.yb,0,none⟩),.int .i64 A.i,x] w fun e w'=>RNames w F A c now s (rsending c now A.i s B) e w':=by
 have hi:=h.ok.i
 have lsb:=h.lsb
 have lyb:=h.lyb
 have lsl:=h.lsl
 have lob:=h.lob
 have HX:=hide hx
 have HBD:=hide hb
 have hq8:=hb.q8
 obtain ⟨hb0,a0,n0,cap0,cl0,la0,rfl⟩:=hx.form
 have H:=hide h
 have HF:=hide hF
 have X:=hide (RBx.mk' (x0:=.int .i64 (kindOf B:Nat)) (x1:=.string hb0) (x2:=.slice a0 n0 cap0) (x3:=.bool cl0) (x4:=.bool la0) h)
 clear h hx hF hb
 have Zhm:=hide hm
 clear hm
 have Zh1:=hide h1
 clear h1
 have Zh5:=hide h5
 clear h5
 go_enter Tryz.func134,Tryz.ntmps134
 iterate 9 go_step
 refine list_at (fun W=>RBx w W F A c now s [] (.int .i64 (kindOf B:Nat)) (.string hb0) (.slice a0 n0 cap0) (.bool cl0) (.bool la0)) X.out ?_
 rintro W hX
 have HXX:=hide hX
 have hz:=hX.lt
 obtain ⟨y0,y1,y2,y3,y4⟩:=hX.hrd.cell
 have H0:=hide hX.at'
 have B0:=hide ((RB.refl A w).below lob lsb hX.bel)
 have V0:=hide hX.ev
 have d1:=hX.at'.lst
 have d2:=hX.at'.ptr
 have c0:=hX.at'.mode
 have c10:=hX.at'.block
 have f0:=hX.at'.zsb 0
 have f10:=hX.at'.zsb 10
 have n1:=hX.at'.ok.h3
 have n2:=hX.at'.ok.h5
 have n1':=Ne.symm n1
 have n2':=Ne.symm n2
 clear hX X
 have hm:=Zhm.out
 have h1:=Zh1.out
 have h5:=Zh5.out
 have HE:Hid (rsending c now A.i s B = some (rdlater c now A.i s)):=by unfold Hid rsending; rw [if_neg h1,if_neg (by omega),if_pos h5]
 have mw:((kindOf B:Int) == (yesN (s.block + 1):Int)) = false:=by simp only [beq_eq_false_iff_ne,ne_eq]; omega
 have HM:=hide hm
 have hne:=HBD.out.que (Or.inr hm)
 have hblk:=HBD.out.blk hm
 have hfit:MsgFit (s.q.headD noMsg):=HBD.out.fit _ (by cases hq:s.q with | nil=>exact absurd hq hne | cons a l=>simp)
 have HFT:=hide hfit
 have htx:=hfit.2.1
 have hnb:=blk_nblk HBD.out.ok htx
 have hOK:=hide HBD.out.ok
 have hpos:0 < s.q.length:=by cases e:s.q with | nil=>exact absurd e hne | cons a l=>simp
 have hn5:(0:Int) < (s.q.length:Int):=by omega
 have HNE:=hide hne
 have HBK:=hide hblk
 clear hm hfit
 rw [h5] at y0 mw
 clear h1 h5
 obtain ⟨g,cap,hq,hgl⟩:=Bq.of H0.out hne
 have HQB:=hide hq
 obtain ⟨j0,j1,j2,j3,j4,j5⟩:=hq
 clear hne
 generalize hmm:s.q.headD noMsg = m at *
 have HMM:=hide hmm
 clear hmm
 go_wp2_with fail
 go_region_held3 (fun W=>W.cell? ⟨A.sb,2,none⟩ = some (.slice (some ⟨g,0,none⟩) s.q.length cap) ∧ W.cell? ⟨g,0,none⟩ = some (.string ⟨m.head.toArray⟩) ∧ W.cell? ⟨g,1,none⟩ = some (.string ⟨m.text.toArray⟩) ∧ W.cell? ⟨g,2,none⟩ = some (.bool m.clear) ∧ W.cell? ⟨A.yb,1,none⟩ = some (.int .i64 c.size) ∧ W.cell? ⟨A.yb,2,none⟩ = some (.int .i64 c.parts)) (first | exact HQB.out | exact HQB.out.below (below_drew_head hb1))
  (first | (go_at_call 147; refine (rblocks_any c m _ hOK.out htx).mono ?_; rintro e w1 ⟨v1,vs1,rfl,hG1,hb1⟩))
 have hb1:=below_drew_head hb1
 obtain ⟨ga,gcap,hv1⟩:=hG1.at'.form
 rw [blocks_len] at hv1
 subst hv1
 have H00:=hide (H0.out.below hb1)
 have B00:=hide (B0.out.below H0.out.lob H0.out.lsb hb1)
 have V00:=hide (EvAt.below V0.out hb1)
 have z0:=(hb1.cell (p:=⟨w.heap.size,0,none⟩) (by simp only; omega)).trans y0
 have hz2:w.heap.size + 1 < w1.heap.size:=by have:=hb1.size; omega
 have hz3:=hb1.size
 clear HXX y0 y1 y2 y3 y4 d1 d2 c0 c10 f0 f10 H0 B0 V0 hb1 hG1 j0 j1 j2 j3 j4 j5
 have H0:=H00
 have B0:=B00
 have V0:=V00
 have y0:=z0
 clear H00 B00 V00 z0
 have d1:=H0.out.lst
 have d2:=H0.out.ptr
 have c0:=H0.out.mode
 have c10:=H0.out.block
 have c7:=H0.out.tries
 have c9:=H0.out.free
 have k8:=H0.out.cfg.2.2.2.2.2.2.2.2.1
 have f0:=H0.out.zsb 0
 have f7:=H0.out.zsb 7
 have f9:=H0.out.zsb 9
 have f10:=H0.out.zsb 10
 go_wp2_with fail
 refine (yes_any (s.block + 1) _ (by omega)).mono ?_
 rintro e wz ⟨rfl,hwz⟩
 obtain rfl:=hwz.symm
 go_wp2_with fail
 refine (later_any F A c now s [] _ H0.out (fun g k=>by have:=HF.out g k; omega) HBD.out.qj HBD.out.jm (by omega) (by have:=HBD.out.off (Or.inr HM.out); omega) _ rfl).mono ?_
 rintro e w1 ⟨rfl,h1,b1⟩
 have B3:=hide (B0.out.trans b1)
 have V3:=hide (Ev0.rb V0.out b1 (by omega) (by omega))
 have H3:=hide h1
 obtain ⟨ek,est,en,eh,et,ec,hev⟩:=evV_form (rlater c now A.i s).2
 have HEV:=hide hev
 rw [hev]
 have hzz:w.heap.size + 1 < w1.heap.size:=by have:=b1.size; omega
 have hzn:w.heap.size + 1 ≠ w1.heap.size:=by omega
 clear h1 b1 hev y0 d1 d2 c0 c10 c7 c9 k8 f0 f7 f9 f10
 have EA:∀ o,Ev0 (w1.alloc o) (w.heap.size + 1):=fun o=>EvAt.alloc V3.out o
 have x0:=fun o=>(EA o).all.1.1
 have x1:=fun o=>(EA o).all.1.2.1
 have x2:=fun o=>(EA o).all.1.2.2.1
 have x3:=fun o=>(EA o).all.1.2.2.2.1
 have x4:=fun o=>(EA o).all.1.2.2.2.2.1
 have x5:=fun o=>(EA o).all.1.2.2.2.2.2
 have q0:=fun o=>(EA o).all.2.1
 have q1:=fun o=>(EA o).all.2.2.1
 have q2:=fun o=>(EA o).all.2.2.2.1
 have q3:=fun o=>(EA o).all.2.2.2.2.1
 have q4:=fun o=>(EA o).all.2.2.2.2.2.1
 have q5:=fun o=>(EA o).all.2.2.2.2.2.2
 clear EA hzn hzz
 go_wp2
 (try simp only [Exit.inBlock,Exit.then])
 refine bodyPost_ret (results_evb rfl _ _ (w.heap.size + 1) rfl (EvAt.all (EvAt.alloc V3.out _))) rfl ?_
 exact rnames_end (d:=((rlater c now A.i s).1,(if s.off + 1 > c.waits ∧ s.mode = 2 then shortB 5 else []),(rlater c now A.i s).2)) (b:=true) (RAt.below H3.out (Below.allocN (Below.refl _ _) _)) (B3.out.below H3.out.lob H3.out.lsb (Below.allocN (Below.refl _ _) _)) (Plus.sub B0.out.size) (fun k=>k.elim (fun y=>absurd (HF.out _ y) (by omega)) (fun y=>by omega)) (by omega) H.out (by rw [show evV _ = _ from HEV.out]; rfl) (fun _=>by rw [HE.out,rdlater_eq]) (fun k=>(by cases k))
end Go.Proofs.YtlbpjcphhocdkaaGreat
