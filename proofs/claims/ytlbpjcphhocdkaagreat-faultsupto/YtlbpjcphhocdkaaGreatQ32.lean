/- The document's station: what is said for its mode and what it hears. The document's station: what is said for its mode and what it hears. The document's station: what is said for its mode and what it hears. The .. -/
import Derived.Test.YtlbpjcphhocdkaaGreatQ20
import Derived.Test.YtlbpjcphhocdkaaGreatQ29
import Derived.Test.YtlbpjcphhocdkaaGreatQ31
set_option maxRecDepth 1000000
set_option maxHeartbeats 16000000
namespace Go.Proofs.YtlbpjcphhocdkaaGreat
open Go.RowKit Go.Proofs.YtlbpjcphhocdkaaGreat.Mod Go.Proofs.YtlbpjcphhocdkaaGreat.Pst
theorem rnamed_bid (F:Nat → Prop) (A:RAd) (c:Cfg) (now:Nat) (s:RS) (B:Ans) (x:Value) (w:World) (h:RAt w F A c now s []) (hF:∀ g,F g → g < w.heap.size) (hx:RHrd w F x B) (hb:RBd c now A.i s) (hm:s.mode = 1) :
  Calls Tryz.prog 108 #[.pointer (some ⟨A.yb,0,none⟩),.int .i64 A.i,x] w fun e w'=>RNames w F A c now s (rnamed c now A.i s B) e w':=by
 have hi:=h.ok.i
 have lsb:=h.lsb
 have lyb:=h.lyb
 have lsl:=h.lsl
 have lob:=h.lob
 have HX:=hide hx
 have HBD:=hide hb
 have hq8:=hb.q8
 obtain ⟨hb0,a0,n0,cap0,cl0,la0,rfl⟩:=hx.form
 have H:=hide h
 have HF:=hide hF
 have X:=hide (RBx.mk' (x0:=.int .i64 (kindOf B:Nat)) (x1:=.string hb0) (x2:=.slice a0 n0 cap0) (x3:=.bool cl0) (x4:=.bool la0) h)
 clear h hx hF hb
 have Zhm:=hide hm
 clear hm
 go_enter Tryz.func108,Tryz.ntmps108
 iterate 9 go_step
 refine list_at (fun W=>RBx w W F A c now s [] (.int .i64 (kindOf B:Nat)) (.string hb0) (.slice a0 n0 cap0) (.bool cl0) (.bool la0)) X.out ?_
 rintro W hX
 have HXX:=hide hX
 have hz:=hX.lt
 obtain ⟨y0,y1,y2,y3,y4⟩:=hX.hrd.cell
 have H0:=hide hX.at'
 have B0:=hide ((RB.refl A w).below lob lsb hX.bel)
 have V0:=hide hX.ev
 have d1:=hX.at'.lst
 have d2:=hX.at'.ptr
 have c0:=hX.at'.mode
 have c10:=hX.at'.block
 have f0:=hX.at'.zsb 0
 have f10:=hX.at'.zsb 10
 have n1:=hX.at'.ok.h3
 have n2:=hX.at'.ok.h5
 have n1':=Ne.symm n1
 have n2':=Ne.symm n2
 clear hX X
 have hm:=Zhm.out
 have HE:Hid (rnamed c now A.i s B = rbidding c now A.i s B):=by unfold Hid rnamed; rw [if_pos hm]
 rw [hm] at c0
 have HM:=hide hm
 clear hm
 have HXW:=hide (HX.out.below HXX.out.bel)
 go_wp2_with fail
 refine (rbidding_any F A c now s B _ _ H0.out (fun g k=>by have:=HF.out g k; omega) HXW.out HBD.out HM.out).mono ?_
 rintro e w1 ⟨d,bb,rfl,h1,b1,hT,hN⟩
 have B3:=hide (B0.out.trans b1)
 have V3:=hide (Ev0.rb V0.out b1 (by omega) (by omega))
 have H3:=hide h1
 have HT:=hide hT
 have HN:=hide hN
 obtain ⟨ek,est,en,eh,et,ec,hev⟩:=evV_form d.2.2
 have HEV:=hide hev
 rw [hev]
 clear h1 b1 hev hT hN y0 y1 y2 y3 y4 d1 d2 c0 c10 f0 f10
 obtain ⟨⟨x0,x1,x2,x3,x4,x5⟩,q0,q1,q2,q3,q4,q5⟩:=Ev0.all V3.out
 go_wp2
 (try simp only [Exit.inBlock,Exit.then])
 refine bodyPost_ret (results_evb rfl _ _ (w.heap.size + 1) rfl (EvAt.all V3.out)) rfl ?_
 exact rnames_end (d:=d) (b:=bb) H3.out B3.out (Plus.sub B0.out.size) (fun k=>k.elim (fun y=>absurd (HF.out _ y) (by omega)) (fun y=>by omega)) (by omega) H.out (by rw [show evV _ = _ from HEV.out]; rfl) (fun k=>by rw [HE.out]; exact HT.out k) (fun k=>⟨by rw [HE.out]; exact (HN.out k).1,(HN.out k).2.1,(HN.out k).2.2,fun y=>absurd (HF.out _ y) (by omega)⟩)
theorem rnamed_send (F:Nat → Prop) (A:RAd) (c:Cfg) (now:Nat) (s:RS) (B:Ans) (x:Value) (w:World) (h:RAt w F A c now s []) (hF:∀ g,F g → g < w.heap.size) (hx:RHrd w F x B) (hb:RBd c now A.i s) (hm:s.mode = 2) :
  Calls Tryz.prog 108 #[.pointer (some ⟨A.yb,0,none⟩),.int .i64 A.i,x] w fun e w'=>RNames w F A c now s (rnamed c now A.i s B) e w':=by
 have hi:=h.ok.i
 have lsb:=h.lsb
 have lyb:=h.lyb
 have lsl:=h.lsl
 have lob:=h.lob
 have HX:=hide hx
 have HBD:=hide hb
 have hq8:=hb.q8
 obtain ⟨hb0,a0,n0,cap0,cl0,la0,rfl⟩:=hx.form
 have H:=hide h
 have HF:=hide hF
 have X:=hide (RBx.mk' (x0:=.int .i64 (kindOf B:Nat)) (x1:=.string hb0) (x2:=.slice a0 n0 cap0) (x3:=.bool cl0) (x4:=.bool la0) h)
 clear h hx hF hb
 have Zhm:=hide hm
 clear hm
 go_enter Tryz.func108,Tryz.ntmps108
 iterate 9 go_step
 refine list_at (fun W=>RBx w W F A c now s [] (.int .i64 (kindOf B:Nat)) (.string hb0) (.slice a0 n0 cap0) (.bool cl0) (.bool la0)) X.out ?_
 rintro W hX
 have HXX:=hide hX
 have hz:=hX.lt
 obtain ⟨y0,y1,y2,y3,y4⟩:=hX.hrd.cell
 have H0:=hide hX.at'
 have B0:=hide ((RB.refl A w).below lob lsb hX.bel)
 have V0:=hide hX.ev
 have d1:=hX.at'.lst
 have d2:=hX.at'.ptr
 have c0:=hX.at'.mode
 have c10:=hX.at'.block
 have f0:=hX.at'.zsb 0
 have f10:=hX.at'.zsb 10
 have n1:=hX.at'.ok.h3
 have n2:=hX.at'.ok.h5
 have n1':=Ne.symm n1
 have n2':=Ne.symm n2
 clear hX X
 have hm:=Zhm.out
 have HE:Hid (rnamed c now A.i s B = rsending c now A.i s B):=by unfold Hid rnamed; rw [if_neg (by omega),if_pos hm]
 rw [hm] at c0
 have HM:=hide hm
 clear hm
 have HXW:=hide (HX.out.below HXX.out.bel)
 go_wp2_with fail
 refine (rsending_any F A c now s B _ _ H0.out (fun g k=>by have:=HF.out g k; omega) HXW.out HBD.out HM.out).mono ?_
 rintro e w1 ⟨d,bb,rfl,h1,b1,hT,hN⟩
 have B3:=hide (B0.out.trans b1)
 have V3:=hide (Ev0.rb V0.out b1 (by omega) (by omega))
 have H3:=hide h1
 have HT:=hide hT
 have HN:=hide hN
 obtain ⟨ek,est,en,eh,et,ec,hev⟩:=evV_form d.2.2
 have HEV:=hide hev
 rw [hev]
 clear h1 b1 hev hT hN y0 y1 y2 y3 y4 d1 d2 c0 c10 f0 f10
 obtain ⟨⟨x0,x1,x2,x3,x4,x5⟩,q0,q1,q2,q3,q4,q5⟩:=Ev0.all V3.out
 go_wp2
 (try simp only [Exit.inBlock,Exit.then])
 refine bodyPost_ret (results_evb rfl _ _ (w.heap.size + 1) rfl (EvAt.all V3.out)) rfl ?_
 exact rnames_end (d:=d) (b:=bb) H3.out B3.out (Plus.sub B0.out.size) (fun k=>k.elim (fun y=>absurd (HF.out _ y) (by omega)) (fun y=>by omega)) (by omega) H.out (by rw [show evV _ = _ from HEV.out]; rfl) (fun k=>by rw [HE.out]; exact HT.out k) (fun k=>⟨by rw [HE.out]; exact (HN.out k).1,(HN.out k).2.1,(HN.out k).2.2,fun y=>absurd (HF.out _ y) (by omega)⟩)
theorem rnamed_rec (F:Nat → Prop) (A:RAd) (c:Cfg) (now:Nat) (s:RS) (B:Ans) (x:Value) (w:World) (h:RAt w F A c now s []) (hF:∀ g,F g → g < w.heap.size) (hx:RHrd w F x B) (hb:RBd c now A.i s) (hm:s.mode = 3) :
  Calls Tryz.prog 108 #[.pointer (some ⟨A.yb,0,none⟩),.int .i64 A.i,x] w fun e w'=>RNames w F A c now s (rnamed c now A.i s B) e w':=by
 have hi:=h.ok.i
 have lsb:=h.lsb
 have lyb:=h.lyb
 have lsl:=h.lsl
 have lob:=h.lob
 have HX:=hide hx
 have HBD:=hide hb
 have hq8:=hb.q8
 obtain ⟨hb0,a0,n0,cap0,cl0,la0,rfl⟩:=hx.form
 have H:=hide h
 have HF:=hide hF
 have X:=hide (RBx.mk' (x0:=.int .i64 (kindOf B:Nat)) (x1:=.string hb0) (x2:=.slice a0 n0 cap0) (x3:=.bool cl0) (x4:=.bool la0) h)
 clear h hx hF hb
 have Zhm:=hide hm
 clear hm
 go_enter Tryz.func108,Tryz.ntmps108
 iterate 9 go_step
 refine list_at (fun W=>RBx w W F A c now s [] (.int .i64 (kindOf B:Nat)) (.string hb0) (.slice a0 n0 cap0) (.bool cl0) (.bool la0)) X.out ?_
 rintro W hX
 have HXX:=hide hX
 have hz:=hX.lt
 obtain ⟨y0,y1,y2,y3,y4⟩:=hX.hrd.cell
 have H0:=hide hX.at'
 have B0:=hide ((RB.refl A w).below lob lsb hX.bel)
 have V0:=hide hX.ev
 have d1:=hX.at'.lst
 have d2:=hX.at'.ptr
 have c0:=hX.at'.mode
 have c10:=hX.at'.block
 have f0:=hX.at'.zsb 0
 have f10:=hX.at'.zsb 10
 have n1:=hX.at'.ok.h3
 have n2:=hX.at'.ok.h5
 have n1':=Ne.symm n1
 have n2':=Ne.symm n2
 clear hX X
 have hm:=Zhm.out
 have HE:Hid (rnamed c now A.i s B = rreceiving c now A.i s B):=by unfold Hid rnamed; rw [if_neg (by omega),if_neg (by omega),if_pos hm]
 rw [hm] at c0
 have HM:=hide hm
 clear hm
 have HXW:=hide (HX.out.below HXX.out.bel)
 go_wp2_with fail
 refine (rreceiving_any F A c now s B _ _ H0.out (fun g k=>by have:=HF.out g k; omega) HXW.out HBD.out HM.out).mono ?_
 rintro e w1 ⟨d,bb,rfl,h1,b1,hT,hN⟩
 have B3:=hide (B0.out.trans b1)
 have V3:=hide (Ev0.rb V0.out b1 (by omega) (by omega))
 have H3:=hide h1
 have HT:=hide hT
 have HN:=hide hN
 obtain ⟨ek,est,en,eh,et,ec,hev⟩:=evV_form d.2.2
 have HEV:=hide hev
 rw [hev]
 clear h1 b1 hev hT hN y0 y1 y2 y3 y4 d1 d2 c0 c10 f0 f10
 obtain ⟨⟨x0,x1,x2,x3,x4,x5⟩,q0,q1,q2,q3,q4,q5⟩:=Ev0.all V3.out
 go_wp2
 (try simp only [Exit.inBlock,Exit.then])
 refine bodyPost_ret (results_evb rfl _ _ (w.heap.size + 1) rfl (EvAt.all V3.out)) rfl ?_
 exact rnames_end (d:=d) (b:=bb) H3.out B3.out (Plus.sub B0.out.size) (fun k=>k.elim (fun y=>absurd (HF.out _ y) (by omega)) (fun y=>by omega)) (by omega) H.out (by rw [show evV _ = _ from HEV.out]; rfl) (fun k=>by rw [HE.out]; exact HT.out k) (fun k=>⟨by rw [HE.out]; exact (HN.out k).1,(HN.out k).2.1,(HN.out k).2.2,fun y=>absurd (HF.out _ y) (by omega)⟩)
theorem rnamed_ans (F:Nat → Prop) (A:RAd) (c:Cfg) (now:Nat) (s:RS) (B:Ans) (x:Value) (w:World) (h:RAt w F A c now s []) (hF:∀ g,F g → g < w.heap.size) (hx:RHrd w F x B) (hb:RBd c now A.i s) (hm:s.mode = 0) (h3:kindOf B = 3) :
  Calls Tryz.prog 108 #[.pointer (some ⟨A.yb,0,none⟩),.int .i64 A.i,x] w fun e w'=>RNames w F A c now s (rnamed c now A.i s B) e w':=by
 have hi:=h.ok.i
 have lsb:=h.lsb
 have lyb:=h.lyb
 have lsl:=h.lsl
 have lob:=h.lob
 have HX:=hide hx
 have HBD:=hide hb
 have hq8:=hb.q8
 obtain ⟨hb0,a0,n0,cap0,cl0,la0,rfl⟩:=hx.form
 have H:=hide h
 have HF:=hide hF
 have X:=hide (RBx.mk' (x0:=.int .i64 (kindOf B:Nat)) (x1:=.string hb0) (x2:=.slice a0 n0 cap0) (x3:=.bool cl0) (x4:=.bool la0) h)
 clear h hx hF hb
 have Zhm:=hide hm
 clear hm
 have Zh3:=hide h3
 clear h3
 go_enter Tryz.func108,Tryz.ntmps108
 iterate 9 go_step
 refine list_at (fun W=>RBx w W F A c now s [] (.int .i64 (kindOf B:Nat)) (.string hb0) (.slice a0 n0 cap0) (.bool cl0) (.bool la0)) X.out ?_
 rintro W hX
 have HXX:=hide hX
 have hz:=hX.lt
 obtain ⟨y0,y1,y2,y3,y4⟩:=hX.hrd.cell
 have H0:=hide hX.at'
 have B0:=hide ((RB.refl A w).below lob lsb hX.bel)
 have V0:=hide hX.ev
 have d1:=hX.at'.lst
 have d2:=hX.at'.ptr
 have c0:=hX.at'.mode
 have c10:=hX.at'.block
 have f0:=hX.at'.zsb 0
 have f10:=hX.at'.zsb 10
 have n1:=hX.at'.ok.h3
 have n2:=hX.at'.ok.h5
 have n1':=Ne.symm n1
 have n2':=Ne.symm n2
 clear hX X
 have hm:=Zhm.out
 have h3:=Zh3.out
 have HE:Hid (rnamed c now A.i s B = some (rdanswers c now s)):=by unfold Hid rnamed; rw [if_neg (by omega),if_neg (by omega),if_neg (by omega),if_pos h3]
 rw [hm] at c0
 rw [h3] at y0
 clear hm h3
 go_wp2_with fail
 refine (answers_any F A c now s [] _ H0.out).mono ?_
 rintro e w1 ⟨rfl,h1,b1⟩
 have B3:=hide (B0.out.trans b1)
 have V3:=hide (Ev0.rb V0.out b1 (by omega) (by omega))
 have H3:=hide h1
 clear h1 b1 y0 y1 y2 y3 y4 d1 d2 c0 c10 f0 f10
 obtain ⟨⟨x0,x1,x2,x3,x4,x5⟩,q0,q1,q2,q3,q4,q5⟩:=Ev0.all V3.out
 go_wp2
 (try simp only [Exit.inBlock,Exit.then])
 refine bodyPost_ret (results_evb rfl _ _ (w.heap.size + 1) rfl (EvAt.all V3.out)) rfl ?_
 exact rnames_end (d:=rdanswers c now s) (b:=true) H3.out B3.out (fun _ k=>Or.inl k) (fun k=>absurd (HF.out _ k) (by omega)) (by omega) H.out rfl (fun _=>HE.out) (fun k=>(by cases k))
theorem rnamed_none (F:Nat → Prop) (A:RAd) (c:Cfg) (now:Nat) (s:RS) (B:Ans) (x:Value) (w:World) (h:RAt w F A c now s []) (hF:∀ g,F g → g < w.heap.size) (hx:RHrd w F x B) (hb:RBd c now A.i s) (hm:s.mode = 0) (h3:¬ kindOf B = 3) :
  Calls Tryz.prog 108 #[.pointer (some ⟨A.yb,0,none⟩),.int .i64 A.i,x] w fun e w'=>RNames w F A c now s (rnamed c now A.i s B) e w':=by
 have hi:=h.ok.i
 have lsb:=h.lsb
 have lyb:=h.lyb
 have lsl:=h.lsl
 have lob:=h.lob
 have HX:=hide hx
 have HBD:=hide hb
 have hq8:=hb.q8
 obtain ⟨hb0,a0,n0,cap0,cl0,la0,rfl⟩:=hx.form
 have H:=hide h
 have HF:=hide hF
 have X:=hide (RBx.mk' (x0:=.int .i64 (kindOf B:Nat)) (x1:=.string hb0) (x2:=.slice a0 n0 cap0) (x3:=.bool cl0) (x4:=.bool la0) h)
 clear h hx hF hb
 have Zhm:=hide hm
 clear hm
 have Zh3:=hide h3
 clear h3
 go_enter Tryz.func108,Tryz.ntmps108
 iterate 9 go_step
 refine list_at (fun W=>RBx w W F A c now s [] (.int .i64 (kindOf B:Nat)) (.string hb0) (.slice a0 n0 cap0) (.bool cl0) (.bool la0)) X.out ?_
 rintro W hX
 have HXX:=hide hX
 have hz:=hX.lt
 obtain ⟨y0,y1,y2,y3,y4⟩:=hX.hrd.cell
 have H0:=hide hX.at'
 have B0:=hide ((RB.refl A w).below lob lsb hX.bel)
 have V0:=hide hX.ev
 have d1:=hX.at'.lst
 have d2:=hX.at'.ptr
 have c0:=hX.at'.mode
 have c10:=hX.at'.block
 have f0:=hX.at'.zsb 0
 have f10:=hX.at'.zsb 10
 have n1:=hX.at'.ok.h3
 have n2:=hX.at'.ok.h5
 have n1':=Ne.symm n1
 have n2':=Ne.symm n2
 clear hX X
 have hm:=Zhm.out
 have h3:=Zh3.out
 have HE:Hid (rnamed c now A.i s B = none):=by unfold Hid rnamed; rw [if_neg (by omega),if_neg (by omega),if_neg (by omega),if_neg h3]
 rw [hm] at c0
 have m3:((kindOf B:Int) != 3) = true:=by simp only [bne_iff_ne,ne_eq]; omega
 have m4:((kindOf B:Int) == 3) = false:=by simp; omega
 clear hm h3
 have V3:=V0
 obtain ⟨⟨x0,x1,x2,x3,x4,x5⟩,q0,q1,q2,q3,q4,q5⟩:=Ev0.all V3.out
 go_wp2
 (try simp only [Exit.inBlock,Exit.then])
 refine bodyPost_ret (results_evb rfl _ _ (w.heap.size + 1) rfl (EvAt.all V3.out)) rfl ?_
 exact rnames_end (d:=(s,[],none)) (b:=false) H0.out B0.out (fun _ k=>Or.inl k) (fun k=>absurd (HF.out _ k) (by omega)) (by omega) H.out rfl (fun k=>(by cases k)) (fun _=>⟨HE.out,rfl,H0.out,fun k=>absurd (HF.out _ k) (by omega)⟩)
theorem rnamed_any (F:Nat → Prop) (A:RAd) (c:Cfg) (now:Nat) (s:RS) (B:Ans) (x:Value) (w:World) (h:RAt w F A c now s []) (hF:∀ g,F g → g < w.heap.size) (hx:RHrd w F x B) (hb:RBd c now A.i s) :
  Calls Tryz.prog 108 #[.pointer (some ⟨A.yb,0,none⟩),.int .i64 A.i,x] w fun e w'=>RNames w F A c now s (rnamed c now A.i s B) e w':=by
 have hm:=hb.mode
 by_cases h1:s.mode = 1
 ·exact rnamed_bid F A c now s B x w h hF hx hb h1
 ·by_cases h2:s.mode = 2
  ·exact rnamed_send F A c now s B x w h hF hx hb h2
  ·by_cases h3:s.mode = 3
   ·exact rnamed_rec F A c now s B x w h hF hx hb h3
   ·have h0:s.mode = 0:=by omega
    by_cases h4:kindOf B = 3
    ·exact rnamed_ans F A c now s B x w h hF hx hb h0 h4
    ·exact rnamed_none F A c now s B x w h hF hx hb h0 h4
end Go.Proofs.YtlbpjcphhocdkaaGreat
