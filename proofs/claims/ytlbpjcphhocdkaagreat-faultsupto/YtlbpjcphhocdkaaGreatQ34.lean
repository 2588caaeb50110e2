/- The document's station: what it does in a tick. The document's station: what it does in a tick. The document's station: what it does in a tick. The document's station: all that it does in a tick. -/
import Derived.Test.YtlbpjcphhocdkaaGreatQ32
import Derived.Test.YtlbpjcphhocdkaaGreatQ30
import Derived.Test.YtlbpjcphhocdkaaGreatQ33
set_option maxRecDepth 1000000
set_option maxHeartbeats 16000000
namespace Go.Proofs.YtlbpjcphhocdkaaGreat
open Go.RowKit Go.Proofs.YtlbpjcphhocdkaaGreat.Mod Go.Proofs.YtlbpjcphhocdkaaGreat.Pst
theorem rone_empty (F:Nat → Prop) (A:RAd) (c:Cfg) (now:Nat) (s:RS) (B:Ans) (x:Value) (w:World) (h:RAt w F A c now s []) (hF:∀ g,F g → g < w.heap.size) (hx:RHrd w F x B) (hb:RBd c now A.i s) (hnm:rnamed c now A.i s B = none) (hm:s.mode = 0) (hqe:s.q = []) :
  Calls Tryz.prog 88 #[.pointer (some ⟨A.yb,0,none⟩),.int .i64 A.i,x] w fun e w'=>RTells w F A c now ((rone c now A.i s B).1,(rone c now A.i s B).2.2) (rone c now A.i s B).2.1 e w':=by
 have hi:=h.ok.i
 have lsb:=h.lsb
 have lyb:=h.lyb
 have lsl:=h.lsl
 have lob:=h.lob
 have HX:=hide hx
 have HBD:=hide hb
 have hq8:=hb.q8
 obtain ⟨hb0,a0,n0,cap0,cl0,la0,rfl⟩:=hx.form
 have H:=hide h
 have HF:=hide hF
 have X:=hide (RBx.mk' (x0:=.int .i64 (kindOf B:Nat)) (x1:=.string hb0) (x2:=.slice a0 n0 cap0) (x3:=.bool cl0) (x4:=.bool la0) h)
 clear h hx hF hb
 have Zhnm:=hide hnm
 clear hnm
 have Zhm:=hide hm
 clear hm
 have Zhqe:=hide hqe
 clear hqe
 go_enter Tryz.func88,Tryz.ntmps88
 iterate 8 go_step
 refine k_at (fun W=>RBx w W F A c now s [] (.int .i64 (kindOf B:Nat)) (.string hb0) (.slice a0 n0 cap0) (.bool cl0) (.bool la0)) X.out ?_
 rintro W hX
 have HXX:=hide hX
 have hz:=hX.lt
 obtain ⟨y0,y1,y2,y3,y4⟩:=hX.hrd.cell
 have H0:=hide hX.at'
 have B0:=hide ((RB.refl A w).below lob lsb hX.bel)
 have V0:=hide hX.ev
 have d1:=hX.at'.lst
 have d2:=hX.at'.ptr
 have c0:=hX.at'.mode
 have c10:=hX.at'.block
 have f0:=hX.at'.zsb 0
 have f10:=hX.at'.zsb 10
 have n1:=hX.at'.ok.h3
 have n2:=hX.at'.ok.h5
 have n1':=Ne.symm n1
 have n2':=Ne.symm n2
 clear hX X
 have hnm:=Zhnm.out
 have hm:=Zhm.out
 have hqe:=Zhqe.out
 have HXW:=hide (HX.out.below HXX.out.bel)
 go_wp2_with fail
 refine (rnamed_any F A c now s B _ _ H0.out (fun g k=>by have:=HF.out g k; omega) HXW.out HBD.out).mono ?_
 rintro e w1 ⟨d,bb,rfl,h1,b1,hT,hN⟩
 have B3:=hide (B0.out.trans b1)
 have V3:=hide (Ev0.rb V0.out b1 (by omega) (by omega))
 have hz1:w.heap.size + 1 < w1.heap.size:=by have:=b1.size; omega
 clear y0 y1 y2 y3 y4 d1 d2 c0 c10 f0 f10 b1
 have hbf:bb = false:=by
  cases bb
  ·rfl
  ·rw [hT rfl] at hnm; cases hnm
 subst hbf
 have hd:=(hN rfl).2.1
 have hF1:=(hN rfl).2.2
 subst hd
 have hev:evV ((s,[],none):RDid).2.2 = .agg #[.int .i64 0,.int .i64 0,.int .i64 0,.string ⟨#[]⟩,.string ⟨#[]⟩,.bool false]:=rfl
 rw [hev]
 have HE:Hid (rone c now A.i s B = (s,[],none)):=by unfold Hid rone; rw [hnm]; simp only; rw [if_neg (fun k=>k.1 hm),if_neg (fun k=>k.2.1 hqe)]
 dsimp only
 iterate 16 go_step
 refine list_at (fun W=>RAt W F A c now s [] ∧ RB A w W ∧ Ev0 W (w.heap.size + 1) ∧ w1.heap.size ≤ W.heap.size) ⟨(RAt.below hF1 (Below.allocN (Below.refl _ _) _)),(B3.out.below h1.lob h1.lsb (Below.allocN (Below.refl _ _) _)),EvAt.alloc V3.out _,by simp⟩ ?_
 rintro W2 ⟨h2,b2,v2,s2⟩
 have H2:=hide h2
 have B2:=hide b2
 have V2:=hide v2
 have hz2:w.heap.size + 1 < W2.heap.size:=by omega
 have d1:=h2.lst
 have d2:=h2.ptr
 have d3:=h2.now
 have c0:=h2.mode
 have c4:=h2.began
 have c5:=h2.wait
 have c6:=h2.ended
 have f0:=h2.zsb 0
 obtain ⟨vq,c2,hvq⟩:=h2.que
 obtain ⟨aq,cq,rfl⟩:=hvq.form
 have n1:=h2.ok.h3
 have n2:=h2.ok.h5
 have n1':=Ne.symm n1
 have n2':=Ne.symm n2
 have hnw:=HBD.out.now
 have he1:=HBD.out.end1
 have he2:=HBD.out.end2
 have ew:IntKind.i64.wrap (s.ended + 3) = s.ended + 3:=wrap_in _ (by omega) (by omega)
 have hl0:s.q.length ≤ 9223372036854775807:=by have:=HBD.out.q8; omega
 clear h1 hT hN B3 V3 h2 b2 v2 hev hvq hF1
 rw [hm] at c0
 have hl1:decide (0 < s.q.length) = false:=by simp [hqe]
 have HM:=hide hm
 clear hm hqe hnm
 go_wp2_with fail
 go_quiet (fail)
 refine exit_at (fun W=>RAt W F A c now s [] ∧ RB A w W ∧ Ev0 W (w.heap.size + 1) ∧ W2.heap.size ≤ W.heap.size) ⟨H2.out.drewN nq,B2.out.below H2.out.lob H2.out.lsb (below_drewN (Below.refl _ _) nq),EvAt.below V2.out (below_drewN (Below.refl _ _) nq),by simp⟩ ?_
 rintro W3 ⟨h3,b3,v3,s3⟩
 clear H2 B2 V2 d1 d2 d3 c0 c4 c5 c6 f0 c2
 have H2:=hide h3
 have B2:=hide b3
 have V2:=hide v3
 have hz3:w.heap.size + 1 < W3.heap.size:=by omega
 have d1:=h3.lst
 have d2:=h3.ptr
 have d3:=h3.now
 have c0:=h3.mode
 rw [HM.out] at c0
 have c6:=h3.ended
 have f0:=h3.zsb 0
 obtain ⟨vq2,c2,hvq2⟩:=h3.que
 obtain ⟨aq2,cq2,rfl⟩:=hvq2.form
 clear h3 b3 v3 hvq2
 go_wp2_with fail
 go_quiet (fail)
 refine exit_at (fun W=>RAt W F A c now s [] ∧ RB A w W ∧ Ev0 W (w.heap.size + 1) ∧ W3.heap.size ≤ W.heap.size) ⟨H2.out.drewN nq,B2.out.below H2.out.lob H2.out.lsb (below_drewN (Below.refl _ _) nq),EvAt.below V2.out (below_drewN (Below.refl _ _) nq),by simp⟩ ?_
 rintro W4 ⟨h3,b3,v3,s4⟩
 clear H2 B2 V2 d1 d2 d3 c0 c6 f0 c2
 have H2:=hide h3
 have B2:=hide b3
 have V2:=hide v3
 have hz4:w.heap.size + 1 < W4.heap.size:=by omega
 have d1:=h3.lst
 have d2:=h3.ptr
 have d3:=h3.now
 have c0:=h3.mode
 rw [HM.out] at c0
 have c6:=h3.ended
 have f0:=h3.zsb 0
 obtain ⟨vq3,c2,hvq3⟩:=h3.que
 obtain ⟨aq3,cq3,rfl⟩:=hvq3.form
 clear h3 b3 v3 hvq3
 obtain ⟨⟨x0,x1,x2,x3,x4,x5⟩,q0,q1,q2,q3,q4,q5⟩:=Ev0.all V2.out
 go_wp2
 (try simp only [Exit.inBlock,Exit.then])
 refine bodyPost_ret (results_ev rfl _ _ (w.heap.size + 1) rfl (EvAt.all V2.out)) rfl ?_
 rw [HE.out]
 exact rtells_end (r:=(s,none)) H2.out B2.out (fun _ k=>Or.inl k) (fun k=>absurd (HF.out _ k) (by omega)) (by omega) H.out rfl
theorem rone_rest (F:Nat → Prop) (A:RAd) (c:Cfg) (now:Nat) (s:RS) (B:Ans) (x:Value) (w:World) (h:RAt w F A c now s []) (hF:∀ g,F g → g < w.heap.size) (hx:RHrd w F x B) (hb:RBd c now A.i s) (hnm:rnamed c now A.i s B = none) (hm:s.mode = 0) (hqe:s.q ≠ []) (hen:¬ s.ended + 3 ≤ (now:Int)) :
  Calls Tryz.prog 88 #[.pointer (some ⟨A.yb,0,none⟩),.int .i64 A.i,x] w fun e w'=>RTells w F A c now ((rone c now A.i s B).1,(rone c now A.i s B).2.2) (rone c now A.i s B).2.1 e w':=by
 have hi:=h.ok.i
 have lsb:=h.lsb
 have lyb:=h.lyb
 have lsl:=h.lsl
 have lob:=h.lob
 have HX:=hide hx
 have HBD:=hide hb
 have hq8:=hb.q8
 obtain ⟨hb0,a0,n0,cap0,cl0,la0,rfl⟩:=hx.form
 have H:=hide h
 have HF:=hide hF
 have X:=hide (RBx.mk' (x0:=.int .i64 (kindOf B:Nat)) (x1:=.string hb0) (x2:=.slice a0 n0 cap0) (x3:=.bool cl0) (x4:=.bool la0) h)
 clear h hx hF hb
 have Zhnm:=hide hnm
 clear hnm
 have Zhm:=hide hm
 clear hm
 have Zhqe:=hide hqe
 clear hqe
 have Zhen:=hide hen
 clear hen
 go_enter Tryz.func88,Tryz.ntmps88
 iterate 8 go_step
 refine k_at (fun W=>RBx w W F A c now s [] (.int .i64 (kindOf B:Nat)) (.string hb0) (.slice a0 n0 cap0) (.bool cl0) (.bool la0)) X.out ?_
 rintro W hX
 have HXX:=hide hX
 have hz:=hX.lt
 obtain ⟨y0,y1,y2,y3,y4⟩:=hX.hrd.cell
 have H0:=hide hX.at'
 have B0:=hide ((RB.refl A w).below lob lsb hX.bel)
 have V0:=hide hX.ev
 have d1:=hX.at'.lst
 have d2:=hX.at'.ptr
 have c0:=hX.at'.mode
 have c10:=hX.at'.block
 have f0:=hX.at'.zsb 0
 have f10:=hX.at'.zsb 10
 have n1:=hX.at'.ok.h3
 have n2:=hX.at'.ok.h5
 have n1':=Ne.symm n1
 have n2':=Ne.symm n2
 clear hX X
 have hnm:=Zhnm.out
 have hm:=Zhm.out
 have hqe:=Zhqe.out
 have hen:=Zhen.out
 have HXW:=hide (HX.out.below HXX.out.bel)
 go_wp2_with fail
 refine (rnamed_any F A c now s B _ _ H0.out (fun g k=>by have:=HF.out g k; omega) HXW.out HBD.out).mono ?_
 rintro e w1 ⟨d,bb,rfl,h1,b1,hT,hN⟩
 have B3:=hide (B0.out.trans b1)
 have V3:=hide (Ev0.rb V0.out b1 (by omega) (by omega))
 have hz1:w.heap.size + 1 < w1.heap.size:=by have:=b1.size; omega
 clear y0 y1 y2 y3 y4 d1 d2 c0 c10 f0 f10 b1
 have hbf:bb = false:=by
  cases bb
  ·rfl
  ·rw [hT rfl] at hnm; cases hnm
 subst hbf
 have hd:=(hN rfl).2.1
 have hF1:=(hN rfl).2.2
 subst hd
 have hev:evV ((s,[],none):RDid).2.2 = .agg #[.int .i64 0,.int .i64 0,.int .i64 0,.string ⟨#[]⟩,.string ⟨#[]⟩,.bool false]:=rfl
 rw [hev]
 have HE:Hid (rone c now A.i s B = (s,[],none)):=by unfold Hid rone; rw [hnm]; simp only; rw [if_neg (fun k=>k.1 hm),if_neg (fun k=>by have:=k.2.2; omega)]
 dsimp only
 iterate 16 go_step
 refine list_at (fun W=>RAt W F A c now s [] ∧ RB A w W ∧ Ev0 W (w.heap.size + 1) ∧ w1.heap.size ≤ W.heap.size) ⟨(RAt.below hF1 (Below.allocN (Below.refl _ _) _)),(B3.out.below h1.lob h1.lsb (Below.allocN (Below.refl _ _) _)),EvAt.alloc V3.out _,by simp⟩ ?_
 rintro W2 ⟨h2,b2,v2,s2⟩
 have H2:=hide h2
 have B2:=hide b2
 have V2:=hide v2
 have hz2:w.heap.size + 1 < W2.heap.size:=by omega
 have d1:=h2.lst
 have d2:=h2.ptr
 have d3:=h2.now
 have c0:=h2.mode
 have c4:=h2.began
 have c5:=h2.wait
 have c6:=h2.ended
 have f0:=h2.zsb 0
 obtain ⟨vq,c2,hvq⟩:=h2.que
 obtain ⟨aq,cq,rfl⟩:=hvq.form
 have n1:=h2.ok.h3
 have n2:=h2.ok.h5
 have n1':=Ne.symm n1
 have n2':=Ne.symm n2
 have hnw:=HBD.out.now
 have he1:=HBD.out.end1
 have he2:=HBD.out.end2
 have ew:IntKind.i64.wrap (s.ended + 3) = s.ended + 3:=wrap_in _ (by omega) (by omega)
 have hl0:s.q.length ≤ 9223372036854775807:=by have:=HBD.out.q8; omega
 clear h1 hT hN B3 V3 h2 b2 v2 hev hvq hF1
 rw [hm] at c0
 have hl1:decide (0 < s.q.length) = true:=by simp only [decide_eq_true_eq]; exact List.length_pos_iff.2 hqe
 have hl2:decide (s.ended + 3 ≤ (now:Int)) = false:=by simp only [decide_eq_false_iff_not]; omega
 have HM:=hide hm
 clear hm hqe hen hnm
 go_wp2_with fail
 go_quiet (fail)
 refine exit_at (fun W=>RAt W F A c now s [] ∧ RB A w W ∧ Ev0 W (w.heap.size + 1) ∧ W2.heap.size ≤ W.heap.size) ⟨H2.out.drewN nq,B2.out.below H2.out.lob H2.out.lsb (below_drewN (Below.refl _ _) nq),EvAt.below V2.out (below_drewN (Below.refl _ _) nq),by simp⟩ ?_
 rintro W3 ⟨h3,b3,v3,s3⟩
 clear H2 B2 V2 d1 d2 d3 c0 c4 c5 c6 f0 c2
 have H2:=hide h3
 have B2:=hide b3
 have V2:=hide v3
 have hz3:w.heap.size + 1 < W3.heap.size:=by omega
 have d1:=h3.lst
 have d2:=h3.ptr
 have d3:=h3.now
 have c0:=h3.mode
 rw [HM.out] at c0
 have c6:=h3.ended
 have f0:=h3.zsb 0
 obtain ⟨vq2,c2,hvq2⟩:=h3.que
 obtain ⟨aq2,cq2,rfl⟩:=hvq2.form
 clear h3 b3 v3 hvq2
 go_wp2_with fail
 go_quiet (fail)
 refine exit_at (fun W=>RAt W F A c now s [] ∧ RB A w W ∧ Ev0 W (w.heap.size + 1) ∧ W3.heap.size ≤ W.heap.size) ⟨H2.out.drewN nq,B2.out.below H2.out.lob H2.out.lsb (below_drewN (Below.refl _ _) nq),EvAt.below V2.out (below_drewN (Below.refl _ _) nq),by simp⟩ ?_
 rintro W4 ⟨h3,b3,v3,s4⟩
 clear H2 B2 V2 d1 d2 d3 c0 c6 f0 c2
 have H2:=hide h3
 have B2:=hide b3
 have V2:=hide v3
 have hz4:w.heap.size + 1 < W4.heap.size:=by omega
 have d1:=h3.lst
 have d2:=h3.ptr
 have d3:=h3.now
 have c0:=h3.mode
 rw [HM.out] at c0
 have c6:=h3.ended
 have f0:=h3.zsb 0
 obtain ⟨vq3,c2,hvq3⟩:=h3.que
 obtain ⟨aq3,cq3,rfl⟩:=hvq3.form
 clear h3 b3 v3 hvq3
 obtain ⟨⟨x0,x1,x2,x3,x4,x5⟩,q0,q1,q2,q3,q4,q5⟩:=Ev0.all V2.out
 go_wp2
 (try simp only [Exit.inBlock,Exit.then])
 refine bodyPost_ret (results_ev rfl _ _ (w.heap.size + 1) rfl (EvAt.all V2.out)) rfl ?_
 rw [HE.out]
 exact rtells_end (r:=(s,none)) H2.out B2.out (fun _ k=>Or.inl k) (fun k=>absurd (HF.out _ k) (by omega)) (by omega) H.out rfl
theorem rone_bid (F:Nat → Prop) (A:RAd) (c:Cfg) (now:Nat) (s:RS) (B:Ans) (x:Value) (w:World) (h:RAt w F A c now s []) (hF:∀ g,F g → g < w.heap.size) (hx:RHrd w F x B) (hb:RBd c now A.i s) (hnm:rnamed c now A.i s B = none) (hm:s.mode = 0) (hqe:s.q ≠ []) (hen:s.ended + 3 ≤ (now:Int)) :
  Calls Tryz.prog 88 #[.pointer (some ⟨A.yb,0,none⟩),.int .i64 A.i,x] w fun e w'=>RTells w F A c now ((rone c now A.i s B).1,(rone c now A.i s B).2.2) (rone c now A.i s B).2.1 e w':=by
 have hi:=h.ok.i
 have lsb:=h.lsb
 have lyb:=h.lyb
 have lsl:=h.lsl
 have lob:=h.lob
 have HX:=hide hx
 have HBD:=hide hb
 have hq8:=hb.q8
 obtain ⟨hb0,a0,n0,cap0,cl0,la0,rfl⟩:=hx.form
 have H:=hide h
 have HF:=hide hF
 have X:=hide (RBx.mk' (x0:=.int .i64 (kindOf B:Nat)) (x1:=.string hb0) (x2:=.slice a0 n0 cap0) (x3:=.bool cl0) (x4:=.bool la0) h)
 clear h hx hF hb
 have Zhnm:=hide hnm
 clear hnm
 have Zhm:=hide hm
 clear hm
 have Zhqe:=hide hqe
 clear hqe
 have Zhen:=hide hen
 clear hen
 go_enter Tryz.func88,Tryz.ntmps88
 iterate 8 go_step
 refine k_at (fun W=>RBx w W F A c now s [] (.int .i64 (kindOf B:Nat)) (.string hb0) (.slice a0 n0 cap0) (.bool cl0) (.bool la0)) X.out ?_
 rintro W hX
 have HXX:=hide hX
 have hz:=hX.lt
 obtain ⟨y0,y1,y2,y3,y4⟩:=hX.hrd.cell
 have H0:=hide hX.at'
 have B0:=hide ((RB.refl A w).below lob lsb hX.bel)
 have V0:=hide hX.ev
 have d1:=hX.at'.lst
 have d2:=hX.at'.ptr
 have c0:=hX.at'.mode
 have c10:=hX.at'.block
 have f0:=hX.at'.zsb 0
 have f10:=hX.at'.zsb 10
 have n1:=hX.at'.ok.h3
 have n2:=hX.at'.ok.h5
 have n1':=Ne.symm n1
 have n2':=Ne.symm n2
 clear hX X
 have hnm:=Zhnm.out
 have hm:=Zhm.out
 have hqe:=Zhqe.out
 have hen:=Zhen.out
 have HXW:=hide (HX.out.below HXX.out.bel)
 go_wp2_with fail
 refine (rnamed_any F A c now s B _ _ H0.out (fun g k=>by have:=HF.out g k; omega) HXW.out HBD.out).mono ?_
 rintro e w1 ⟨d,bb,rfl,h1,b1,hT,hN⟩
 have B3:=hide (B0.out.trans b1)
 have V3:=hide (Ev0.rb V0.out b1 (by omega) (by omega))
 have hz1:w.heap.size + 1 < w1.heap.size:=by have:=b1.size; omega
 clear y0 y1 y2 y3 y4 d1 d2 c0 c10 f0 f10 b1
 have hbf:bb = false:=by
  cases bb
  ·rfl
  ·rw [hT rfl] at hnm; cases hnm
 subst hbf
 have hd:=(hN rfl).2.1
 have hF1:=(hN rfl).2.2
 subst hd
 have hev:evV ((s,[],none):RDid).2.2 = .agg #[.int .i64 0,.int .i64 0,.int .i64 0,.string ⟨#[]⟩,.string ⟨#[]⟩,.bool false]:=rfl
 rw [hev]
 have HE:Hid (rone c now A.i s B = ({ s with mode:=1,tries:=1,off:=0,free:=false,began:=now,wait:=patience c A.i 1 },txOf c (.short 3),none)):=by unfold Hid rone; rw [hnm]; simp only; rw [if_neg (fun k=>k.1 hm),if_pos ⟨hm,hqe,hen⟩]
 dsimp only
 iterate 16 go_step
 refine list_at (fun W=>RAt W F A c now s [] ∧ RB A w W ∧ Ev0 W (w.heap.size + 1) ∧ w1.heap.size ≤ W.heap.size) ⟨(RAt.below hF1 (Below.allocN (Below.refl _ _) _)),(B3.out.below h1.lob h1.lsb (Below.allocN (Below.refl _ _) _)),EvAt.alloc V3.out _,by simp⟩ ?_
 rintro W2 ⟨h2,b2,v2,s2⟩
 have H2:=hide h2
 have B2:=hide b2
 have V2:=hide v2
 have hz2:w.heap.size + 1 < W2.heap.size:=by omega
 have d1:=h2.lst
 have d2:=h2.ptr
 have d3:=h2.now
 have c0:=h2.mode
 have c4:=h2.began
 have c5:=h2.wait
 have c6:=h2.ended
 have f0:=h2.zsb 0
 obtain ⟨vq,c2,hvq⟩:=h2.que
 obtain ⟨aq,cq,rfl⟩:=hvq.form
 have n1:=h2.ok.h3
 have n2:=h2.ok.h5
 have n1':=Ne.symm n1
 have n2':=Ne.symm n2
 have hnw:=HBD.out.now
 have he1:=HBD.out.end1
 have he2:=HBD.out.end2
 have ew:IntKind.i64.wrap (s.ended + 3) = s.ended + 3:=wrap_in _ (by omega) (by omega)
 have hl0:s.q.length ≤ 9223372036854775807:=by have:=HBD.out.q8; omega
 clear h1 hT hN B3 V3 h2 b2 v2 hev hvq hF1
 rw [hm] at c0
 have hl1:decide (0 < s.q.length) = true:=by simp only [decide_eq_true_eq]; exact List.length_pos_iff.2 hqe
 have hl2:decide (s.ended + 3 ≤ (now:Int)) = true:=by simp only [decide_eq_true_eq]; exact hen
 have HM:=hide hm
 clear hm hqe hen hnm
 go_wp2_with fail
 go_quiet (fail)
 refine exit_at (fun W=>RAt W F A c now s [] ∧ RB A w W ∧ Ev0 W (w.heap.size + 1) ∧ W2.heap.size ≤ W.heap.size) ⟨H2.out.drewN nq,B2.out.below H2.out.lob H2.out.lsb (below_drewN (Below.refl _ _) nq),EvAt.below V2.out (below_drewN (Below.refl _ _) nq),by simp⟩ ?_
 rintro W3 ⟨h3,b3,v3,s3⟩
 clear H2 B2 V2 d1 d2 d3 c0 c4 c5 c6 f0 c2
 have H2:=hide h3
 have B2:=hide b3
 have V2:=hide v3
 have hz3:w.heap.size + 1 < W3.heap.size:=by omega
 have d1:=h3.lst
 have d2:=h3.ptr
 have d3:=h3.now
 have c0:=h3.mode
 rw [HM.out] at c0
 have c6:=h3.ended
 have f0:=h3.zsb 0
 obtain ⟨vq2,c2,hvq2⟩:=h3.que
 obtain ⟨aq2,cq2,rfl⟩:=hvq2.form
 clear h3 b3 v3 hvq2
 go_wp2_with fail
 go_quiet (fail)
 refine exit_at (fun W=>RAt W F A c now s [] ∧ RB A w W ∧ Ev0 W (w.heap.size + 1) ∧ W3.heap.size ≤ W.heap.size) ⟨H2.out.drewN nq,B2.out.below H2.out.lob H2.out.lsb (below_drewN (Below.refl _ _) nq),EvAt.below V2.out (below_drewN (Below.refl _ _) nq),by simp⟩ ?_
 rintro W4 ⟨h3,b3,v3,s4⟩
 clear H2 B2 V2 d1 d2 d3 c0 c6 f0 c2
 have H2:=hide h3
 have B2:=hide b3
 have V2:=hide v3
 have hz4:w.heap.size + 1 < W4.heap.size:=by omega
 have d1:=h3.lst
 have d2:=h3.ptr
 have d3:=h3.now
 have c0:=h3.mode
 rw [HM.out] at c0
 have c6:=h3.ended
 have f0:=h3.zsb 0
 obtain ⟨vq3,c2,hvq3⟩:=h3.que
 obtain ⟨aq3,cq3,rfl⟩:=hvq3.form
 clear h3 b3 v3 hvq3
 go_wp2_with fail
 refine (begins_any F A c now _ [] _ (H2.out.mode' 1)).mono ?_
 rintro e w5 ⟨rfl,h5,b5⟩
 have H5:=hide h5
 have B5:=hide (((RB.refl A W4).setS H.out.ok.h6 0 _).trans b5)
 clear h5 b5 d1 d2 d3 c0 c6 f0 c2
 go_wp2_with fail
 refine (patience_any F A c now _ [] _ H5.out).mono ?_
 rintro e w6 ⟨rfl,hw6⟩
 obtain rfl:=hw6.symm
 go_wp2_with fail
 refine (waits_any F A c now (patience c A.i 1) _ [] _ H5.out).mono ?_
 rintro e w7 ⟨rfl,h7,b7⟩
 have H7:=hide h7
 have B7:=hide (B5.out.trans b7)
 clear h7 b7
 go_wp2_with fail
 refine (says_any F A c now 3 _ [] _ H7.out (by omega)).mono ?_
 rintro e w8 ⟨rfl,h8,b8⟩
 have H8:=hide h8
 have B8:=hide (B2.out.trans (B7.out.trans b8))
 have V8:=hide (Ev0.rb V2.out (B7.out.trans b8) (by omega) (by omega))
 clear h8 b8
 obtain ⟨⟨x0,x1,x2,x3,x4,x5⟩,q0,q1,q2,q3,q4,q5⟩:=Ev0.all V8.out
 go_wp2
 (try simp only [Exit.inBlock,Exit.then])
 refine bodyPost_ret (results_ev rfl _ _ (w.heap.size + 1) rfl (EvAt.all V8.out)) rfl ?_
 rw [HE.out]
 exact rtells_end (r:=({ s with mode:=1,tries:=1,off:=0,free:=false,began:=now,wait:=patience c A.i 1 },none)) H8.out B8.out (fun _ k=>Or.inl k) (fun k=>absurd (HF.out _ k) (by omega)) (by omega) H.out rfl
theorem rone_any (F:Nat → Prop) (A:RAd) (c:Cfg) (now:Nat) (s:RS) (B:Ans) (x:Value) (w:World) (h:RAt w F A c now s []) (hF:∀ g,F g → g < w.heap.size) (hx:RHrd w F x B) (hb:RBd c now A.i s) :
  Calls Tryz.prog 88 #[.pointer (some ⟨A.yb,0,none⟩),.int .i64 A.i,x] w fun e w'=>RTells w F A c now ((rone c now A.i s B).1,(rone c now A.i s B).2.2) (rone c now A.i s B).2.1 e w':=by
 cases hnm:rnamed c now A.i s B with
 | some D=>exact rone_named F A c now s B x w h hF hx hb D hnm
 | none =>
  by_cases hm:s.mode = 0
  ·by_cases hq:s.q = []
   ·exact rone_empty F A c now s B x w h hF hx hb hnm hm hq
   ·by_cases he:s.ended + 3 ≤ (now:Int)
    ·exact rone_bid F A c now s B x w h hF hx hb hnm hm hq he
    ·exact rone_rest F A c now s B x w h hF hx hb hnm hm hq he
  ·by_cases hd:now = s.began + s.wait
   ·by_cases h3:s.mode = 3
    ·exact rone_stop F A c now s B x w h hF hx hb hnm hm hd h3
    ·exact rone_over F A c now s B x w h hF hx hb hnm hm hd h3
   ·exact rone_wait F A c now s B x w h hF hx hb hnm hm hd
end Go.Proofs.YtlbpjcphhocdkaaGreat
