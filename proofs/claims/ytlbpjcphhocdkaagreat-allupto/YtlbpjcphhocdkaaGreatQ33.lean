/- The document's station: its wait is over while it receives. The document's station: what it does in a tick. The document's station: what it does in a tick. The document's station: what it does in a tick. The document's .. -/
import Derived.Test.YtlbpjcphhocdkaaGreatQ20
import Derived.Test.YtlbpjcphhocdkaaGreatQ32
import Derived.Test.YtlbpjcphhocdkaaGreatQ30
set_option maxRecDepth 1000000
set_option maxHeartbeats 16000000
namespace Go.Proofs.YtlbpjcphhocdkaaGreat
open Go.RowKit Go.Proofs.YtlbpjcphhocdkaaGreat.Mod Go.Proofs.YtlbpjcphhocdkaaGreat.Pst
theorem wrap_in (x:Int) (h1:-1000000000000000000 ≤ x) (h2:x ≤ 1000000000000000000):IntKind.i64.wrap x = x:=by rw [IntKind.wrap_i64]; omega
theorem over_rec (F:Nat → Prop) (A:RAd) (c:Cfg) (now:Nat) (s:RS) (w:World) (h:RAt w F A c now s []) (hF:∀ x,F x → x < w.heap.size) (hm:s.mode = 3) :
  Calls Tryz.prog 109 #[.pointer (some ⟨A.yb,0,none⟩),.int .i64 A.i] w fun e w'=>RTells w F A c now (rover c now A.i s) (roverOn c s []) e w':=by
 have hi:=h.ok.i
 have lsb:=h.lsb
 have lyb:=h.lyb
 have lsl:=h.lsl
 have lob:=h.lob
 have HM:=hide hm
 have H:=hide h
 clear h hm
 go_enter Tryz.func109,Tryz.ntmps109
 go_step
 go_step
 go_step
 go_step
 go_step
 go_step
 refine list_at (fun W=>RAt W F A c now s [] ∧ RB A w W ∧ Ev0 W w.heap.size) ⟨H.out.below (Below.allocN (Below.refl _ _) _),(RB.refl A w).below lob lsb (Below.allocN (Below.refl _ _) _),EvAt.new rfl _ _ _ _ _ _⟩ ?_
 rintro W ⟨h0,b0,E0⟩
 have d1:=h0.lst
 have d2:=h0.ptr
 have c0:=h0.mode
 have H0:=hide h0
 have B0:=hide b0
 have V0:=hide E0
 have hz:w.heap.size < W.heap.size:=E0.lt
 clear h0 b0 E0
 have HE:Hid (rover c now A.i s = ({ s with mode:=0,got:=[] },none)):=by simp [Hid,rover,HM.out]
 have HO2:Hid (roverOn c s [] = []):=by simp [Hid,roverOn,HM.out]
 rw [HM.out] at c0
 go_wp2_with fail
 refine (stops_any F A c now s [] _ H0.out).mono ?_
 rintro e w2 ⟨rfl,h2,b2⟩
 have B2:=hide (B0.out.trans b2)
 have V2:=hide (EvAt.rb V0.out b2 (by omega) (by omega))
 have H2:=hide h2
 clear h2 b2 d1 d2 c0
 obtain ⟨⟨x0,x1,x2,x3,x4,x5⟩,q0,q1,q2,q3,q4,q5⟩:=Ev0.all V2.out
 go_wp2
 (try simp only [Exit.inBlock,Exit.then])
 refine bodyPost_ret (results_ev rfl _ _ w.heap.size rfl (EvAt.all V2.out)) rfl ?_
 rw [HE.out,HO2.out]
 exact ⟨rfl,rend H2.out B2.out (fun x hx=>Or.inl hx) (fun y=>by have:=hF _ y; omega) (Nat.le_refl _) H.out _ _ _ _ _ _⟩
theorem rone_named (F:Nat → Prop) (A:RAd) (c:Cfg) (now:Nat) (s:RS) (B:Ans) (x:Value) (w:World) (h:RAt w F A c now s []) (hF:∀ g,F g → g < w.heap.size) (hx:RHrd w F x B) (hb:RBd c now A.i s) (D:RDid) (hnm:rnamed c now A.i s B = some D) :
  Calls Tryz.prog 88 #[.pointer (some ⟨A.yb,0,none⟩),.int .i64 A.i,x] w fun e w'=>RTells w F A c now ((rone c now A.i s B).1,(rone c now A.i s B).2.2) (rone c now A.i s B).2.1 e w':=by
 have hi:=h.ok.i
 have lsb:=h.lsb
 have lyb:=h.lyb
 have lsl:=h.lsl
 have lob:=h.lob
 have HX:=hide hx
 have HBD:=hide hb
 have hq8:=hb.q8
 obtain ⟨hb0,a0,n0,cap0,cl0,la0,rfl⟩:=hx.form
 have H:=hide h
 have HF:=hide hF
 have X:=hide (RBx.mk' (x0:=.int .i64 (kindOf B:Nat)) (x1:=.string hb0) (x2:=.slice a0 n0 cap0) (x3:=.bool cl0) (x4:=.bool la0) h)
 clear h hx hF hb
 have Zhnm:=hide hnm
 clear hnm
 go_enter Tryz.func88,Tryz.ntmps88
 iterate 8 go_step
 refine k_at (fun W=>RBx w W F A c now s [] (.int .i64 (kindOf B:Nat)) (.string hb0) (.slice a0 n0 cap0) (.bool cl0) (.bool la0)) X.out ?_
 rintro W hX
 have HXX:=hide hX
 have hz:=hX.lt
 obtain ⟨y0,y1,y2,y3,y4⟩:=hX.hrd.cell
 have H0:=hide hX.at'
 have B0:=hide ((RB.refl A w).below lob lsb hX.bel)
 have V0:=hide hX.ev
 have d1:=hX.at'.lst
 have d2:=hX.at'.ptr
 have c0:=hX.at'.mode
 have c10:=hX.at'.block
 have f0:=hX.at'.zsb 0
 have f10:=hX.at'.zsb 10
 have n1:=hX.at'.ok.h3
 have n2:=hX.at'.ok.h5
 have n1':=Ne.symm n1
 have n2':=Ne.symm n2
 clear hX X
 have hnm:=Zhnm.out
 have HXW:=hide (HX.out.below HXX.out.bel)
 go_wp2_with fail
 refine (rnamed_any F A c now s B _ _ H0.out (fun g k=>by have:=HF.out g k; omega) HXW.out HBD.out).mono ?_
 rintro e w1 ⟨d,bb,rfl,h1,b1,hT,hN⟩
 have B3:=hide (B0.out.trans b1)
 have V3:=hide (Ev0.rb V0.out b1 (by omega) (by omega))
 have hz1:w.heap.size + 1 < w1.heap.size:=by have:=b1.size; omega
 clear y0 y1 y2 y3 y4 d1 d2 c0 c10 f0 f10 b1
 obtain ⟨rfl⟩:bb = true:=by
  cases bb
  ·rw [(hN rfl).1] at hnm; cases hnm
  ·rfl
 have hd:d = D:=by have:=hT rfl; rw [hnm] at this; cases this; rfl
 have HE:Hid (rone c now A.i s B = d):=by unfold Hid rone; rw [hnm,hd]
 have H3:=hide h1
 obtain ⟨ek,est,en,eh,et,ec,hev⟩:=evV_form d.2.2
 have HEV:=hide hev
 rw [hev]
 have EA:∀ o,Ev0 (w1.alloc o) (w.heap.size + 1):=fun o=>EvAt.alloc V3.out o
 have x0:=fun o=>(EA o).all.1.1
 have x1:=fun o=>(EA o).all.1.2.1
 have x2:=fun o=>(EA o).all.1.2.2.1
 have x3:=fun o=>(EA o).all.1.2.2.2.1
 have x4:=fun o=>(EA o).all.1.2.2.2.2.1
 have x5:=fun o=>(EA o).all.1.2.2.2.2.2
 have q0:=fun o=>(EA o).all.2.1
 have q1:=fun o=>(EA o).all.2.2.1
 have q2:=fun o=>(EA o).all.2.2.2.1
 have q3:=fun o=>(EA o).all.2.2.2.2.1
 have q4:=fun o=>(EA o).all.2.2.2.2.2.1
 have q5:=fun o=>(EA o).all.2.2.2.2.2.2
 clear EA hev h1 hT hN hnm hd hz1
 go_wp2
 (try simp only [Exit.inBlock,Exit.then])
 refine bodyPost_ret (results_ev rfl _ _ (w.heap.size + 1) rfl (EvAt.all (EvAt.alloc V3.out _))) rfl ?_
 rw [HE.out]
 exact rtells_end (r:=(d.1,d.2.2)) (RAt.below H3.out (Below.allocN (Below.refl _ _) _)) (B3.out.below H3.out.lob H3.out.lsb (Below.allocN (Below.refl _ _) _)) (Plus.sub B0.out.size) (fun k=>k.elim (fun y=>absurd (HF.out _ y) (by omega)) (fun y=>by omega)) (by omega) H.out (by rw [show evV _ = _ from HEV.out])
theorem rone_wait (F:Nat → Prop) (A:RAd) (c:Cfg) (now:Nat) (s:RS) (B:Ans) (x:Value) (w:World) (h:RAt w F A c now s []) (hF:∀ g,F g → g < w.heap.size) (hx:RHrd w F x B) (hb:RBd c now A.i s) (hnm:rnamed c now A.i s B = none) (hm:s.mode ≠ 0) (hdu:¬ now = s.began + s.wait) :
  Calls Tryz.prog 88 #[.pointer (some ⟨A.yb,0,none⟩),.int .i64 A.i,x] w fun e w'=>RTells w F A c now ((rone c now A.i s B).1,(rone c now A.i s B).2.2) (rone c now A.i s B).2.1 e w':=by
 have hi:=h.ok.i
 have lsb:=h.lsb
 have lyb:=h.lyb
 have lsl:=h.lsl
 have lob:=h.lob
 have HX:=hide hx
 have HBD:=hide hb
 have hq8:=hb.q8
 obtain ⟨hb0,a0,n0,cap0,cl0,la0,rfl⟩:=hx.form
 have H:=hide h
 have HF:=hide hF
 have X:=hide (RBx.mk' (x0:=.int .i64 (kindOf B:Nat)) (x1:=.string hb0) (x2:=.slice a0 n0 cap0) (x3:=.bool cl0) (x4:=.bool la0) h)
 clear h hx hF hb
 have Zhnm:=hide hnm
 clear hnm
 have Zhm:=hide hm
 clear hm
 have Zhdu:=hide hdu
 clear hdu
 go_enter Tryz.func88,Tryz.ntmps88
 iterate 8 go_step
 refine k_at (fun W=>RBx w W F A c now s [] (.int .i64 (kindOf B:Nat)) (.string hb0) (.slice a0 n0 cap0) (.bool cl0) (.bool la0)) X.out ?_
 rintro W hX
 have HXX:=hide hX
 have hz:=hX.lt
 obtain ⟨y0,y1,y2,y3,y4⟩:=hX.hrd.cell
 have H0:=hide hX.at'
 have B0:=hide ((RB.refl A w).below lob lsb hX.bel)
 have V0:=hide hX.ev
 have d1:=hX.at'.lst
 have d2:=hX.at'.ptr
 have c0:=hX.at'.mode
 have c10:=hX.at'.block
 have f0:=hX.at'.zsb 0
 have f10:=hX.at'.zsb 10
 have n1:=hX.at'.ok.h3
 have n2:=hX.at'.ok.h5
 have n1':=Ne.symm n1
 have n2':=Ne.symm n2
 clear hX X
 have hnm:=Zhnm.out
 have hm:=Zhm.out
 have hdu:=Zhdu.out
 have HXW:=hide (HX.out.below HXX.out.bel)
 go_wp2_with fail
 refine (rnamed_any F A c now s B _ _ H0.out (fun g k=>by have:=HF.out g k; omega) HXW.out HBD.out).mono ?_
 rintro e w1 ⟨d,bb,rfl,h1,b1,hT,hN⟩
 have B3:=hide (B0.out.trans b1)
 have V3:=hide (Ev0.rb V0.out b1 (by omega) (by omega))
 have hz1:w.heap.size + 1 < w1.heap.size:=by have:=b1.size; omega
 clear y0 y1 y2 y3 y4 d1 d2 c0 c10 f0 f10 b1
 have hbf:bb = false:=by
  cases bb
  ·rfl
  ·rw [hT rfl] at hnm; cases hnm
 subst hbf
 have hd:=(hN rfl).2.1
 have hF1:=(hN rfl).2.2
 subst hd
 have hev:evV ((s,[],none):RDid).2.2 = .agg #[.int .i64 0,.int .i64 0,.int .i64 0,.string ⟨#[]⟩,.string ⟨#[]⟩,.bool false]:=rfl
 rw [hev]
 have HE:Hid (rone c now A.i s B = (s,[],none)):=by unfold Hid rone; rw [hnm]; simp only; rw [if_neg (fun k=>hdu k.2),if_neg (fun k=>hm k.1)]
 dsimp only
 iterate 16 go_step
 refine list_at (fun W=>RAt W F A c now s [] ∧ RB A w W ∧ Ev0 W (w.heap.size + 1) ∧ w1.heap.size ≤ W.heap.size) ⟨(RAt.below hF1 (Below.allocN (Below.refl _ _) _)),(B3.out.below h1.lob h1.lsb (Below.allocN (Below.refl _ _) _)),EvAt.alloc V3.out _,by simp⟩ ?_
 rintro W2 ⟨h2,b2,v2,s2⟩
 have H2:=hide h2
 have B2:=hide b2
 have V2:=hide v2
 have hz2:w.heap.size + 1 < W2.heap.size:=by omega
 have d1:=h2.lst
 have d2:=h2.ptr
 have d3:=h2.now
 have c0:=h2.mode
 have c4:=h2.began
 have c5:=h2.wait
 have c6:=h2.ended
 have f0:=h2.zsb 0
 obtain ⟨vq,c2,hvq⟩:=h2.que
 obtain ⟨aq,cq,rfl⟩:=hvq.form
 have n1:=h2.ok.h3
 have n2:=h2.ok.h5
 have n1':=Ne.symm n1
 have n2':=Ne.symm n2
 have hnw:=HBD.out.now
 have he1:=HBD.out.end1
 have he2:=HBD.out.end2
 have bw:IntKind.i64.wrap ((s.began:Int) + (s.wait:Int)) = (s.began:Int) + (s.wait:Int):=wrap_in _ (by omega) (by have:=HBD.out.due hm; omega)
 have ew:IntKind.i64.wrap (s.ended + 3) = s.ended + 3:=wrap_in _ (by omega) (by omega)
 have hl0:s.q.length ≤ 9223372036854775807:=by have:=HBD.out.q8; omega
 clear h1 hT hN B3 V3 h2 b2 v2 hev hvq hF1
 have m0:((s.mode:Int) != 0) = true:=by simp only [bne_iff_ne,ne_eq]; omega
 have m1:((s.mode:Int) == 0) = false:=by simp; omega
 have mt:((now:Int) == (s.began:Int) + (s.wait:Int)) = false:=by simp only [beq_eq_false_iff_ne,ne_eq]; omega
 clear hm hdu hnm
 go_wp2_with fail
 go_quiet (fail)
 refine exit_at (fun W=>RAt W F A c now s [] ∧ RB A w W ∧ Ev0 W (w.heap.size + 1) ∧ W2.heap.size ≤ W.heap.size) ⟨H2.out.drewN nq,B2.out.below H2.out.lob H2.out.lsb (below_drewN (Below.refl _ _) nq),EvAt.below V2.out (below_drewN (Below.refl _ _) nq),by simp⟩ ?_
 rintro W3 ⟨h3,b3,v3,s3⟩
 clear H2 B2 V2 d1 d2 d3 c0 c4 c5 c6 f0 c2
 have H2:=hide h3
 have B2:=hide b3
 have V2:=hide v3
 have hz3:w.heap.size + 1 < W3.heap.size:=by omega
 have d1:=h3.lst
 have d2:=h3.ptr
 have d3:=h3.now
 have c0:=h3.mode
 have c6:=h3.ended
 have f0:=h3.zsb 0
 obtain ⟨vq2,c2,hvq2⟩:=h3.que
 obtain ⟨aq2,cq2,rfl⟩:=hvq2.form
 clear h3 b3 v3 hvq2
 go_wp2_with fail
 go_quiet (fail)
 refine exit_at (fun W=>RAt W F A c now s [] ∧ RB A w W ∧ Ev0 W (w.heap.size + 1) ∧ W3.heap.size ≤ W.heap.size) ⟨H2.out.drewN nq,B2.out.below H2.out.lob H2.out.lsb (below_drewN (Below.refl _ _) nq),EvAt.below V2.out (below_drewN (Below.refl _ _) nq),by simp⟩ ?_
 rintro W4 ⟨h3,b3,v3,s4⟩
 clear H2 B2 V2 d1 d2 d3 c0 c6 f0 c2
 have H2:=hide h3
 have B2:=hide b3
 have V2:=hide v3
 have hz4:w.heap.size + 1 < W4.heap.size:=by omega
 have d1:=h3.lst
 have d2:=h3.ptr
 have d3:=h3.now
 have c0:=h3.mode
 have c6:=h3.ended
 have f0:=h3.zsb 0
 obtain ⟨vq3,c2,hvq3⟩:=h3.que
 obtain ⟨aq3,cq3,rfl⟩:=hvq3.form
 clear h3 b3 v3 hvq3
 obtain ⟨⟨x0,x1,x2,x3,x4,x5⟩,q0,q1,q2,q3,q4,q5⟩:=Ev0.all V2.out
 go_wp2
 (try simp only [Exit.inBlock,Exit.then])
 refine bodyPost_ret (results_ev rfl _ _ (w.heap.size + 1) rfl (EvAt.all V2.out)) rfl ?_
 rw [HE.out]
 exact rtells_end (r:=(s,none)) H2.out B2.out (fun _ k=>Or.inl k) (fun k=>absurd (HF.out _ k) (by omega)) (by omega) H.out rfl
theorem rone_over (F:Nat → Prop) (A:RAd) (c:Cfg) (now:Nat) (s:RS) (B:Ans) (x:Value) (w:World) (h:RAt w F A c now s []) (hF:∀ g,F g → g < w.heap.size) (hx:RHrd w F x B) (hb:RBd c now A.i s) (hnm:rnamed c now A.i s B = none) (hm:s.mode ≠ 0) (hdu:now = s.began + s.wait) (hm3:s.mode ≠ 3) :
  Calls Tryz.prog 88 #[.pointer (some ⟨A.yb,0,none⟩),.int .i64 A.i,x] w fun e w'=>RTells w F A c now ((rone c now A.i s B).1,(rone c now A.i s B).2.2) (rone c now A.i s B).2.1 e w':=by
 have hi:=h.ok.i
 have lsb:=h.lsb
 have lyb:=h.lyb
 have lsl:=h.lsl
 have lob:=h.lob
 have HX:=hide hx
 have HBD:=hide hb
 have hq8:=hb.q8
 obtain ⟨hb0,a0,n0,cap0,cl0,la0,rfl⟩:=hx.form
 have H:=hide h
 have HF:=hide hF
 have X:=hide (RBx.mk' (x0:=.int .i64 (kindOf B:Nat)) (x1:=.string hb0) (x2:=.slice a0 n0 cap0) (x3:=.bool cl0) (x4:=.bool la0) h)
 clear h hx hF hb
 have Zhnm:=hide hnm
 clear hnm
 have Zhm:=hide hm
 clear hm
 have Zhdu:=hide hdu
 clear hdu
 have Zhm3:=hide hm3
 clear hm3
 go_enter Tryz.func88,Tryz.ntmps88
 iterate 8 go_step
 refine k_at (fun W=>RBx w W F A c now s [] (.int .i64 (kindOf B:Nat)) (.string hb0) (.slice a0 n0 cap0) (.bool cl0) (.bool la0)) X.out ?_
 rintro W hX
 have HXX:=hide hX
 have hz:=hX.lt
 obtain ⟨y0,y1,y2,y3,y4⟩:=hX.hrd.cell
 have H0:=hide hX.at'
 have B0:=hide ((RB.refl A w).below lob lsb hX.bel)
 have V0:=hide hX.ev
 have d1:=hX.at'.lst
 have d2:=hX.at'.ptr
 have c0:=hX.at'.mode
 have c10:=hX.at'.block
 have f0:=hX.at'.zsb 0
 have f10:=hX.at'.zsb 10
 have n1:=hX.at'.ok.h3
 have n2:=hX.at'.ok.h5
 have n1':=Ne.symm n1
 have n2':=Ne.symm n2
 clear hX X
 have hnm:=Zhnm.out
 have hm:=Zhm.out
 have hdu:=Zhdu.out
 have hm3:=Zhm3.out
 have HXW:=hide (HX.out.below HXX.out.bel)
 go_wp2_with fail
 refine (rnamed_any F A c now s B _ _ H0.out (fun g k=>by have:=HF.out g k; omega) HXW.out HBD.out).mono ?_
 rintro e w1 ⟨d,bb,rfl,h1,b1,hT,hN⟩
 have B3:=hide (B0.out.trans b1)
 have V3:=hide (Ev0.rb V0.out b1 (by omega) (by omega))
 have hz1:w.heap.size + 1 < w1.heap.size:=by have:=b1.size; omega
 clear y0 y1 y2 y3 y4 d1 d2 c0 c10 f0 f10 b1
 have H3M:=hide hm3
 clear hm3
 have hbf:bb = false:=by
  cases bb
  ·rfl
  ·rw [hT rfl] at hnm; cases hnm
 subst hbf
 have hd:=(hN rfl).2.1
 have hF1:=(hN rfl).2.2
 subst hd
 have hev:evV ((s,[],none):RDid).2.2 = .agg #[.int .i64 0,.int .i64 0,.int .i64 0,.string ⟨#[]⟩,.string ⟨#[]⟩,.bool false]:=rfl
 rw [hev]
 have HE:Hid (rone c now A.i s B = (rdover c now A.i s)):=by unfold Hid rone; rw [hnm]; simp only; rw [if_pos ⟨hm,hdu⟩]
 dsimp only
 iterate 16 go_step
 refine list_at (fun W=>RAt W F A c now s [] ∧ RB A w W ∧ Ev0 W (w.heap.size + 1) ∧ w1.heap.size ≤ W.heap.size) ⟨(RAt.below hF1 (Below.allocN (Below.refl _ _) _)),(B3.out.below h1.lob h1.lsb (Below.allocN (Below.refl _ _) _)),EvAt.alloc V3.out _,by simp⟩ ?_
 rintro W2 ⟨h2,b2,v2,s2⟩
 have H2:=hide h2
 have B2:=hide b2
 have V2:=hide v2
 have hz2:w.heap.size + 1 < W2.heap.size:=by omega
 have d1:=h2.lst
 have d2:=h2.ptr
 have d3:=h2.now
 have c0:=h2.mode
 have c4:=h2.began
 have c5:=h2.wait
 have c6:=h2.ended
 have f0:=h2.zsb 0
 obtain ⟨vq,c2,hvq⟩:=h2.que
 obtain ⟨aq,cq,rfl⟩:=hvq.form
 have n1:=h2.ok.h3
 have n2:=h2.ok.h5
 have n1':=Ne.symm n1
 have n2':=Ne.symm n2
 have hnw:=HBD.out.now
 have he1:=HBD.out.end1
 have he2:=HBD.out.end2
 have bw:IntKind.i64.wrap ((s.began:Int) + (s.wait:Int)) = (s.began:Int) + (s.wait:Int):=wrap_in _ (by omega) (by have:=HBD.out.due hm; omega)
 have ew:IntKind.i64.wrap (s.ended + 3) = s.ended + 3:=wrap_in _ (by omega) (by omega)
 have hl0:s.q.length ≤ 9223372036854775807:=by have:=HBD.out.q8; omega
 clear h1 hT hN B3 V3 h2 b2 v2 hev hvq hF1
 have m0:((s.mode:Int) != 0) = true:=by simp only [bne_iff_ne,ne_eq]; omega
 have mt:((now:Int) == (s.began:Int) + (s.wait:Int)) = true:=by simp only [beq_iff_eq]; omega
 have HM:=hide hm
 clear hm hdu hnm
 go_wp2_with fail
 go_quiet (fail)
 refine exit_at (fun W=>RAt W F A c now s [] ∧ RB A w W ∧ Ev0 W (w.heap.size + 1) ∧ W2.heap.size ≤ W.heap.size) ⟨H2.out.drewN nq,B2.out.below H2.out.lob H2.out.lsb (below_drewN (Below.refl _ _) nq),EvAt.below V2.out (below_drewN (Below.refl _ _) nq),by simp⟩ ?_
 rintro W3 ⟨h3,b3,v3,s3⟩
 clear H2 B2 V2 d1 d2 d3 c0 c4 c5 c6 f0 c2
 have H2:=hide h3
 have B2:=hide b3
 have V2:=hide v3
 have hz3:w.heap.size + 1 < W3.heap.size:=by omega
 have d1:=h3.lst
 have d2:=h3.ptr
 have d3:=h3.now
 have c0:=h3.mode
 have c6:=h3.ended
 have f0:=h3.zsb 0
 obtain ⟨vq2,c2,hvq2⟩:=h3.que
 obtain ⟨aq2,cq2,rfl⟩:=hvq2.form
 clear h3 b3 v3 hvq2
 go_wp2_with fail
 refine (over_any F A c now s [] _ H2.out (fun g k=>by have:=HF.out g k; omega) HBD.out.qj HBD.out.jm (by have:=HBD.out.q8; omega) (by have:=HBD.out.tries (by have:=HM.out; have:=HBD.out.mode; have:=H3M.out; omega); omega) _ rfl).mono ?_
 rintro e w5 ⟨rfl,h5,b5⟩
 have B5:=hide (B2.out.trans b5)
 have V5:=hide (Ev0.rb V2.out b5 (by omega) (by omega))
 have H5:=hide h5
 obtain ⟨ek,est,en,eh,et,ec,hev⟩:=evV_form (rover c now A.i s).2
 have HEV:=hide hev
 rw [hev]
 clear h5 b5 hev d1 d2 d3 c0 c6 f0 c2
 obtain ⟨⟨x0,x1,x2,x3,x4,x5⟩,q0,q1,q2,q3,q4,q5⟩:=Ev0.all V5.out
 go_wp2
 (try simp only [Exit.inBlock,Exit.then])
 refine bodyPost_ret (results_ev rfl _ _ (w.heap.size + 1) rfl (EvAt.all V5.out)) rfl ?_
 rw [HE.out]
 exact rtells_end (r:=((rover c now A.i s).1,(rover c now A.i s).2)) H5.out B5.out (Plus.sub B2.out.size) (fun k=>k.elim (fun y=>absurd (HF.out _ y) (by omega)) (fun y=>by omega)) (by omega) H.out HEV.out.symm
theorem rone_stop (F:Nat → Prop) (A:RAd) (c:Cfg) (now:Nat) (s:RS) (B:Ans) (x:Value) (w:World) (h:RAt w F A c now s []) (hF:∀ g,F g → g < w.heap.size) (hx:RHrd w F x B) (hb:RBd c now A.i s) (hnm:rnamed c now A.i s B = none) (hm:s.mode ≠ 0) (hdu:now = s.began + s.wait) (hm3:s.mode = 3) :
  Calls Tryz.prog 88 #[.pointer (some ⟨A.yb,0,none⟩),.int .i64 A.i,x] w fun e w'=>RTells w F A c now ((rone c now A.i s B).1,(rone c now A.i s B).2.2) (rone c now A.i s B).2.1 e w':=by
 have hi:=h.ok.i
 have lsb:=h.lsb
 have lyb:=h.lyb
 have lsl:=h.lsl
 have lob:=h.lob
 have HX:=hide hx
 have HBD:=hide hb
 have hq8:=hb.q8
 obtain ⟨hb0,a0,n0,cap0,cl0,la0,rfl⟩:=hx.form
 have H:=hide h
 have HF:=hide hF
 have X:=hide (RBx.mk' (x0:=.int .i64 (kindOf B:Nat)) (x1:=.string hb0) (x2:=.slice a0 n0 cap0) (x3:=.bool cl0) (x4:=.bool la0) h)
 clear h hx hF hb
 have Zhnm:=hide hnm
 clear hnm
 have Zhm:=hide hm
 clear hm
 have Zhdu:=hide hdu
 clear hdu
 have Zhm3:=hide hm3
 clear hm3
 go_enter Tryz.func88,Tryz.ntmps88
 iterate 8 go_step
 refine k_at (fun W=>RBx w W F A c now s [] (.int .i64 (kindOf B:Nat)) (.string hb0) (.slice a0 n0 cap0) (.bool cl0) (.bool la0)) X.out ?_
 rintro W hX
 have HXX:=hide hX
 have hz:=hX.lt
 obtain ⟨y0,y1,y2,y3,y4⟩:=hX.hrd.cell
 have H0:=hide hX.at'
 have B0:=hide ((RB.refl A w).below lob lsb hX.bel)
 have V0:=hide hX.ev
 have d1:=hX.at'.lst
 have d2:=hX.at'.ptr
 have c0:=hX.at'.mode
 have c10:=hX.at'.block
 have f0:=hX.at'.zsb 0
 have f10:=hX.at'.zsb 10
 have n1:=hX.at'.ok.h3
 have n2:=hX.at'.ok.h5
 have n1':=Ne.symm n1
 have n2':=Ne.symm n2
 clear hX X
 have hnm:=Zhnm.out
 have hm:=Zhm.out
 have hdu:=Zhdu.out
 have hm3:=Zhm3.out
 have HXW:=hide (HX.out.below HXX.out.bel)
 go_wp2_with fail
 refine (rnamed_any F A c now s B _ _ H0.out (fun g k=>by have:=HF.out g k; omega) HXW.out HBD.out).mono ?_
 rintro e w1 ⟨d,bb,rfl,h1,b1,hT,hN⟩
 have B3:=hide (B0.out.trans b1)
 have V3:=hide (Ev0.rb V0.out b1 (by omega) (by omega))
 have hz1:w.heap.size + 1 < w1.heap.size:=by have:=b1.size; omega
 clear y0 y1 y2 y3 y4 d1 d2 c0 c10 f0 f10 b1
 have H3M:=hide hm3
 clear hm3
 have hbf:bb = false:=by
  cases bb
  ·rfl
  ·rw [hT rfl] at hnm; cases hnm
 subst hbf
 have hd:=(hN rfl).2.1
 have hF1:=(hN rfl).2.2
 subst hd
 have hev:evV ((s,[],none):RDid).2.2 = .agg #[.int .i64 0,.int .i64 0,.int .i64 0,.string ⟨#[]⟩,.string ⟨#[]⟩,.bool false]:=rfl
 rw [hev]
 have HE:Hid (rone c now A.i s B = (rdover c now A.i s)):=by unfold Hid rone; rw [hnm]; simp only; rw [if_pos ⟨hm,hdu⟩]
 dsimp only
 iterate 16 go_step
 refine list_at (fun W=>RAt W F A c now s [] ∧ RB A w W ∧ Ev0 W (w.heap.size + 1) ∧ w1.heap.size ≤ W.heap.size) ⟨(RAt.below hF1 (Below.allocN (Below.refl _ _) _)),(B3.out.below h1.lob h1.lsb (Below.allocN (Below.refl _ _) _)),EvAt.alloc V3.out _,by simp⟩ ?_
 rintro W2 ⟨h2,b2,v2,s2⟩
 have H2:=hide h2
 have B2:=hide b2
 have V2:=hide v2
 have hz2:w.heap.size + 1 < W2.heap.size:=by omega
 have d1:=h2.lst
 have d2:=h2.ptr
 have d3:=h2.now
 have c0:=h2.mode
 have c4:=h2.began
 have c5:=h2.wait
 have c6:=h2.ended
 have f0:=h2.zsb 0
 obtain ⟨vq,c2,hvq⟩:=h2.que
 obtain ⟨aq,cq,rfl⟩:=hvq.form
 have n1:=h2.ok.h3
 have n2:=h2.ok.h5
 have n1':=Ne.symm n1
 have n2':=Ne.symm n2
 have hnw:=HBD.out.now
 have he1:=HBD.out.end1
 have he2:=HBD.out.end2
 have bw:IntKind.i64.wrap ((s.began:Int) + (s.wait:Int)) = (s.began:Int) + (s.wait:Int):=wrap_in _ (by omega) (by have:=HBD.out.due hm; omega)
 have ew:IntKind.i64.wrap (s.ended + 3) = s.ended + 3:=wrap_in _ (by omega) (by omega)
 have hl0:s.q.length ≤ 9223372036854775807:=by have:=HBD.out.q8; omega
 clear h1 hT hN B3 V3 h2 b2 v2 hev hvq hF1
 have m0:((s.mode:Int) != 0) = true:=by simp only [bne_iff_ne,ne_eq]; omega
 have mt:((now:Int) == (s.began:Int) + (s.wait:Int)) = true:=by simp only [beq_iff_eq]; omega
 have HM:=hide hm
 clear hm hdu hnm
 go_wp2_with fail
 go_quiet (fail)
 refine exit_at (fun W=>RAt W F A c now s [] ∧ RB A w W ∧ Ev0 W (w.heap.size + 1) ∧ W2.heap.size ≤ W.heap.size) ⟨H2.out.drewN nq,B2.out.below H2.out.lob H2.out.lsb (below_drewN (Below.refl _ _) nq),EvAt.below V2.out (below_drewN (Below.refl _ _) nq),by simp⟩ ?_
 rintro W3 ⟨h3,b3,v3,s3⟩
 clear H2 B2 V2 d1 d2 d3 c0 c4 c5 c6 f0 c2
 have H2:=hide h3
 have B2:=hide b3
 have V2:=hide v3
 have hz3:w.heap.size + 1 < W3.heap.size:=by omega
 have d1:=h3.lst
 have d2:=h3.ptr
 have d3:=h3.now
 have c0:=h3.mode
 have c6:=h3.ended
 have f0:=h3.zsb 0
 obtain ⟨vq2,c2,hvq2⟩:=h3.que
 obtain ⟨aq2,cq2,rfl⟩:=hvq2.form
 clear h3 b3 v3 hvq2
 go_wp2_with fail
 refine (over_rec F A c now s _ H2.out (fun g k=>by have:=HF.out g k; omega) H3M.out).mono ?_
 rintro e w5 ⟨rfl,h5,b5⟩
 have B5:=hide (B2.out.trans b5)
 have V5:=hide (Ev0.rb V2.out b5 (by omega) (by omega))
 have H5:=hide h5
 obtain ⟨ek,est,en,eh,et,ec,hev⟩:=evV_form (rover c now A.i s).2
 have HEV:=hide hev
 rw [hev]
 clear h5 b5 hev d1 d2 d3 c0 c6 f0 c2
 obtain ⟨⟨x0,x1,x2,x3,x4,x5⟩,q0,q1,q2,q3,q4,q5⟩:=Ev0.all V5.out
 go_wp2
 (try simp only [Exit.inBlock,Exit.then])
 refine bodyPost_ret (results_ev rfl _ _ (w.heap.size + 1) rfl (EvAt.all V5.out)) rfl ?_
 rw [HE.out]
 exact rtells_end (r:=((rover c now A.i s).1,(rover c now A.i s).2)) H5.out B5.out (Plus.sub B2.out.size) (fun k=>k.elim (fun y=>absurd (HF.out _ y) (by omega)) (fun y=>by omega)) (by omega) H.out HEV.out.symm
end Go.Proofs.YtlbpjcphhocdkaaGreat
