/- The document's station, receiving. The document's station, receiving. The document's station, receiving. The document's station, receiving. The document's station, receiving. The document's station, receiving. The .. -/
import Derived.Test.YtlbpjcphhocdkaaGreatQ20
import Derived.Test.YtlbpjcphhocdkaaGreatQ30
set_option maxRecDepth 1000000
set_option maxHeartbeats 16000000
namespace Go.Proofs.YtlbpjcphhocdkaaGreat
open Go.RowKit Go.Proofs.YtlbpjcphhocdkaaGreat.Mod Go.Proofs.YtlbpjcphhocdkaaGreat.Pst
theorem rrec_torn (F:Nat → Prop) (A:RAd) (c:Cfg) (now:Nat) (s:RS) (B:Ans) (x:Value) (w:World) (h:RAt w F A c now s []) (hF:∀ g,F g → g < w.heap.size) (hx:RHrd w F x B) (hb:RBd c now A.i s) (hm:s.mode = 3) (h5:kindOf B = 1) :
  Calls Tryz.prog 135 #[.pointer (some ⟨A.yb,0,none⟩),.int .i64 A.i,x] w fun e w'=>RNames w F A c now s (rreceiving c now A.i s B) e w':=by
 have hi:=h.ok.i
 have lsb:=h.lsb
 have lyb:=h.lyb
 have lsl:=h.lsl
 have lob:=h.lob
 have HX:=hide hx
 have HBD:=hide hb
 have hq8:=hb.q8
 obtain ⟨hb0,a0,n0,cap0,cl0,la0,rfl⟩:=hx.form
 have H:=hide h
 have HF:=hide hF
 have X:=hide (RBx.mk' (x0:=.int .i64 (kindOf B:Nat)) (x1:=.string hb0) (x2:=.slice a0 n0 cap0) (x3:=.bool cl0) (x4:=.bool la0) h)
 clear h hx hF hb
 have Zhm:=hide hm
 clear hm
 have Zh5:=hide h5
 clear h5
 go_enter Tryz.func135,Tryz.ntmps135
 iterate 9 go_step
 refine list_at (fun W=>RBx w W F A c now s [] (.int .i64 (kindOf B:Nat)) (.string hb0) (.slice a0 n0 cap0) (.bool cl0) (.bool la0)) X.out ?_
 rintro W hX
 have HXX:=hide hX
 have hz:=hX.lt
 obtain ⟨y0,y1,y2,y3,y4⟩:=hX.hrd.cell
 have H0:=hide hX.at'
 have B0:=hide ((RB.refl A w).below lob lsb hX.bel)
 have V0:=hide hX.ev
 have d1:=hX.at'.lst
 have d2:=hX.at'.ptr
 have c0:=hX.at'.mode
 have c10:=hX.at'.block
 have f0:=hX.at'.zsb 0
 have f10:=hX.at'.zsb 10
 have n1:=hX.at'.ok.h3
 have n2:=hX.at'.ok.h5
 have n1':=Ne.symm n1
 have n2':=Ne.symm n2
 clear hX X
 have hm:=Zhm.out
 have h5:=Zh5.out
 have HM:=hide hm
 clear hm
 have HE:Hid (rreceiving c now A.i s B = some (({ s with began:=now,wait:=c.lost },txOf c (.short 6),none))):=by
  cases B with
  | data hd ps cl la=>simp [kindOf] at h5
  | none n=>obtain rfl:n = 1:=h5; rfl
 rw [h5] at y0
 clear h5
 go_wp2_with fail
 refine (says_any F A c now 6 s [] _ H0.out (by omega)).mono ?_
 rintro e w1 ⟨rfl,h1,b1⟩
 have HA:=hide h1
 have BA:=hide b1
 clear h1 b1 y0 y1 y2 y3 y4 d1 d2 c0 c10 f0 f10
 have d5:=HA.out.cfg.2.2.2.2.2.2.2.1
 go_wp2_with fail
 refine (waits_any F A c now c.lost s _ _ HA.out).mono ?_
 rintro e w2 ⟨rfl,h2,b2⟩
 have B3:=hide (B0.out.trans (BA.out.trans b2))
 have V3:=hide (Ev0.rb V0.out (BA.out.trans b2) (by omega) (by omega))
 have H3:=hide h2
 clear h2 b2 d5
 obtain ⟨⟨x0,x1,x2,x3,x4,x5⟩,q0,q1,q2,q3,q4,q5⟩:=Ev0.all V3.out
 go_wp2
 (try simp only [Exit.inBlock,Exit.then])
 refine bodyPost_ret (results_evb rfl _ _ (w.heap.size + 1) rfl (EvAt.all V3.out)) rfl ?_
 exact rnames_end (d:=({ s with began:=now,wait:=c.lost },txOf c (.short 6),none)) (b:=true) H3.out B3.out (fun _ k=>Or.inl k) (fun k=>absurd (HF.out _ k) (by omega)) (by omega) H.out rfl (fun _=>HE.out) (fun k=>(by cases k))
theorem rrec_ask (F:Nat → Prop) (A:RAd) (c:Cfg) (now:Nat) (s:RS) (B:Ans) (x:Value) (w:World) (h:RAt w F A c now s []) (hF:∀ g,F g → g < w.heap.size) (hx:RHrd w F x B) (hb:RBd c now A.i s) (hm:s.mode = 3) (h5:kindOf B = 4) :
  Calls Tryz.prog 135 #[.pointer (some ⟨A.yb,0,none⟩),.int .i64 A.i,x] w fun e w'=>RNames w F A c now s (rreceiving c now A.i s B) e w':=by
 have hi:=h.ok.i
 have lsb:=h.lsb
 have lyb:=h.lyb
 have lsl:=h.lsl
 have lob:=h.lob
 have HX:=hide hx
 have HBD:=hide hb
 have hq8:=hb.q8
 obtain ⟨hb0,a0,n0,cap0,cl0,la0,rfl⟩:=hx.form
 have H:=hide h
 have HF:=hide hF
 have X:=hide (RBx.mk' (x0:=.int .i64 (kindOf B:Nat)) (x1:=.string hb0) (x2:=.slice a0 n0 cap0) (x3:=.bool cl0) (x4:=.bool la0) h)
 clear h hx hF hb
 have Zhm:=hide hm
 clear hm
 have Zh5:=hide h5
 clear h5
 go_enter Tryz.func135,Tryz.ntmps135
 iterate 9 go_step
 refine list_at (fun W=>RBx w W F A c now s [] (.int .i64 (kindOf B:Nat)) (.string hb0) (.slice a0 n0 cap0) (.bool cl0) (.bool la0)) X.out ?_
 rintro W hX
 have HXX:=hide hX
 have hz:=hX.lt
 obtain ⟨y0,y1,y2,y3,y4⟩:=hX.hrd.cell
 have H0:=hide hX.at'
 have B0:=hide ((RB.refl A w).below lob lsb hX.bel)
 have V0:=hide hX.ev
 have d1:=hX.at'.lst
 have d2:=hX.at'.ptr
 have c0:=hX.at'.mode
 have c10:=hX.at'.block
 have f0:=hX.at'.zsb 0
 have f10:=hX.at'.zsb 10
 have n1:=hX.at'.ok.h3
 have n2:=hX.at'.ok.h5
 have n1':=Ne.symm n1
 have n2':=Ne.symm n2
 clear hX X
 have hm:=Zhm.out
 have h5:=Zh5.out
 have HM:=hide hm
 clear hm
 have HE:Hid (rreceiving c now A.i s B = some (({ s with began:=now,wait:=c.lost },txOf c (rtells s),none))):=by
  cases B with
  | data hd ps cl la=>simp [kindOf] at h5
  | none n=>obtain rfl:n = 4:=h5; rfl
 rw [h5] at y0
 clear h5
 go_wp2_with fail
 refine (tells_any F A c now s [] _ H0.out (by have:=HBD.out.count; omega)).mono ?_
 rintro e w1 ⟨rfl,h1,b1⟩
 rw [tells_tx c s] at h1
 have HA:=hide h1
 have BA:=hide b1
 clear h1 b1 y0 y1 y2 y3 y4 d1 d2 c0 c10 f0 f10
 have d5:=HA.out.cfg.2.2.2.2.2.2.2.1
 go_wp2_with fail
 refine (waits_any F A c now c.lost s _ _ HA.out).mono ?_
 rintro e w2 ⟨rfl,h2,b2⟩
 have B3:=hide (B0.out.trans (BA.out.trans b2))
 have V3:=hide (Ev0.rb V0.out (BA.out.trans b2) (by omega) (by omega))
 have H3:=hide h2
 clear h2 b2 d5
 obtain ⟨⟨x0,x1,x2,x3,x4,x5⟩,q0,q1,q2,q3,q4,q5⟩:=Ev0.all V3.out
 go_wp2
 (try simp only [Exit.inBlock,Exit.then])
 refine bodyPost_ret (results_evb rfl _ _ (w.heap.size + 1) rfl (EvAt.all V3.out)) rfl ?_
 exact rnames_end (d:=({ s with began:=now,wait:=c.lost },txOf c (rtells s),none)) (b:=true) H3.out B3.out (fun _ k=>Or.inl k) (fun k=>absurd (HF.out _ k) (by omega)) (by omega) H.out rfl (fun _=>HE.out) (fun k=>(by cases k))
theorem rrec_bid (F:Nat → Prop) (A:RAd) (c:Cfg) (now:Nat) (s:RS) (B:Ans) (x:Value) (w:World) (h:RAt w F A c now s []) (hF:∀ g,F g → g < w.heap.size) (hx:RHrd w F x B) (hb:RBd c now A.i s) (hm:s.mode = 3) (h5:kindOf B = 3) :
  Calls Tryz.prog 135 #[.pointer (some ⟨A.yb,0,none⟩),.int .i64 A.i,x] w fun e w'=>RNames w F A c now s (rreceiving c now A.i s B) e w':=by
 have hi:=h.ok.i
 have lsb:=h.lsb
 have lyb:=h.lyb
 have lsl:=h.lsl
 have lob:=h.lob
 have HX:=hide hx
 have HBD:=hide hb
 have hq8:=hb.q8
 obtain ⟨hb0,a0,n0,cap0,cl0,la0,rfl⟩:=hx.form
 have H:=hide h
 have HF:=hide hF
 have X:=hide (RBx.mk' (x0:=.int .i64 (kindOf B:Nat)) (x1:=.string hb0) (x2:=.slice a0 n0 cap0) (x3:=.bool cl0) (x4:=.bool la0) h)
 clear h hx hF hb
 have Zhm:=hide hm
 clear hm
 have Zh5:=hide h5
 clear h5
 go_enter Tryz.func135,Tryz.ntmps135
 iterate 9 go_step
 refine list_at (fun W=>RBx w W F A c now s [] (.int .i64 (kindOf B:Nat)) (.string hb0) (.slice a0 n0 cap0) (.bool cl0) (.bool la0)) X.out ?_
 rintro W hX
 have HXX:=hide hX
 have hz:=hX.lt
 obtain ⟨y0,y1,y2,y3,y4⟩:=hX.hrd.cell
 have H0:=hide hX.at'
 have B0:=hide ((RB.refl A w).below lob lsb hX.bel)
 have V0:=hide hX.ev
 have d1:=hX.at'.lst
 have d2:=hX.at'.ptr
 have c0:=hX.at'.mode
 have c10:=hX.at'.block
 have f0:=hX.at'.zsb 0
 have f10:=hX.at'.zsb 10
 have n1:=hX.at'.ok.h3
 have n2:=hX.at'.ok.h5
 have n1':=Ne.symm n1
 have n2':=Ne.symm n2
 clear hX X
 have hm:=Zhm.out
 have h5:=Zh5.out
 have HM:=hide hm
 clear hm
 have HE:Hid (rreceiving c now A.i s B = some (rdanswers c now s)):=by
  cases B with
  | data hd ps cl la=>simp [kindOf] at h5
  | none n=>obtain rfl:n = 3:=h5; rfl
 rw [h5] at y0
 clear h5
 go_wp2_with fail
 refine (answers_any F A c now s [] _ H0.out).mono ?_
 rintro e w1 ⟨rfl,h1,b1⟩
 have B3:=hide (B0.out.trans b1)
 have V3:=hide (Ev0.rb V0.out b1 (by omega) (by omega))
 have H3:=hide h1
 clear h1 b1 y0 y1 y2 y3 y4 d1 d2 c0 c10 f0 f10
 obtain ⟨⟨x0,x1,x2,x3,x4,x5⟩,q0,q1,q2,q3,q4,q5⟩:=Ev0.all V3.out
 go_wp2
 (try simp only [Exit.inBlock,Exit.then])
 refine bodyPost_ret (results_evb rfl _ _ (w.heap.size + 1) rfl (EvAt.all V3.out)) rfl ?_
 exact rnames_end (d:=rdanswers c now s) (b:=true) H3.out B3.out (fun _ k=>Or.inl k) (fun k=>absurd (HF.out _ k) (by omega)) (by omega) H.out rfl (fun _=>HE.out) (fun k=>(by cases k))
theorem rrec_end (F:Nat → Prop) (A:RAd) (c:Cfg) (now:Nat) (s:RS) (B:Ans) (x:Value) (w:World) (h:RAt w F A c now s []) (hF:∀ g,F g → g < w.heap.size) (hx:RHrd w F x B) (hb:RBd c now A.i s) (hm:s.mode = 3) (h5:kindOf B = 5) :
  Calls Tryz.prog 135 #[.pointer (some ⟨A.yb,0,none⟩),.int .i64 A.i,x] w fun e w'=>RNames w F A c now s (rreceiving c now A.i s B) e w':=by
 have hi:=h.ok.i
 have lsb:=h.lsb
 have lyb:=h.lyb
 have lsl:=h.lsl
 have lob:=h.lob
 have HX:=hide hx
 have HBD:=hide hb
 have hq8:=hb.q8
 obtain ⟨hb0,a0,n0,cap0,cl0,la0,rfl⟩:=hx.form
 have H:=hide h
 have HF:=hide hF
 have X:=hide (RBx.mk' (x0:=.int .i64 (kindOf B:Nat)) (x1:=.string hb0) (x2:=.slice a0 n0 cap0) (x3:=.bool cl0) (x4:=.bool la0) h)
 clear h hx hF hb
 have Zhm:=hide hm
 clear hm
 have Zh5:=hide h5
 clear h5
 go_enter Tryz.func135,Tryz.ntmps135
 iterate 9 go_step
 refine list_at (fun W=>RBx w W F A c now s [] (.int .i64 (kindOf B:Nat)) (.string hb0) (.slice a0 n0 cap0) (.bool cl0) (.bool la0)) X.out ?_
 rintro W hX
 have HXX:=hide hX
 have hz:=hX.lt
 obtain ⟨y0,y1,y2,y3,y4⟩:=hX.hrd.cell
 have H0:=hide hX.at'
 have B0:=hide ((RB.refl A w).below lob lsb hX.bel)
 have V0:=hide hX.ev
 have d1:=hX.at'.lst
 have d2:=hX.at'.ptr
 have c0:=hX.at'.mode
 have c10:=hX.at'.block
 have f0:=hX.at'.zsb 0
 have f10:=hX.at'.zsb 10
 have n1:=hX.at'.ok.h3
 have n2:=hX.at'.ok.h5
 have n1':=Ne.symm n1
 have n2':=Ne.symm n2
 clear hX X
 have hm:=Zhm.out
 have h5:=Zh5.out
 have HM:=hide hm
 clear hm
 have HE:Hid (rreceiving c now A.i s B = some (({ s with mode:=0,got:=[] },[],none))):=by
  cases B with
  | data hd ps cl la=>simp [kindOf] at h5
  | none n=>obtain rfl:n = 5:=h5; rfl
 rw [h5] at y0
 clear h5
 go_wp2_with fail
 refine (stops_any F A c now s [] _ H0.out).mono ?_
 rintro e w1 ⟨rfl,h1,b1⟩
 have B3:=hide (B0.out.trans b1)
 have V3:=hide (Ev0.rb V0.out b1 (by omega) (by omega))
 have H3:=hide h1
 clear h1 b1 y0 y1 y2 y3 y4 d1 d2 c0 c10 f0 f10
 obtain ⟨⟨x0,x1,x2,x3,x4,x5⟩,q0,q1,q2,q3,q4,q5⟩:=Ev0.all V3.out
 go_wp2
 (try simp only [Exit.inBlock,Exit.then])
 refine bodyPost_ret (results_evb rfl _ _ (w.heap.size + 1) rfl (EvAt.all V3.out)) rfl ?_
 exact rnames_end (d:=({ s with mode:=0,got:=[] },[],none)) (b:=true) H3.out B3.out (fun _ k=>Or.inl k) (fun k=>absurd (HF.out _ k) (by omega)) (by omega) H.out rfl (fun _=>HE.out) (fun k=>(by cases k))
theorem rrec_none (F:Nat → Prop) (A:RAd) (c:Cfg) (now:Nat) (s:RS) (B:Ans) (x:Value) (w:World) (h:RAt w F A c now s []) (hF:∀ g,F g → g < w.heap.size) (hx:RHrd w F x B) (hb:RBd c now A.i s) (hm:s.mode = 3) (h2:¬ kindOf B = 2) (h5:¬ kindOf B = 1) (h6:¬ kindOf B = 4) (h7:¬ kindOf B = 3) (h8:¬ kindOf B = 5) :
  Calls Tryz.prog 135 #[.pointer (some ⟨A.yb,0,none⟩),.int .i64 A.i,x] w fun e w'=>RNames w F A c now s (rreceiving c now A.i s B) e w':=by
 have hi:=h.ok.i
 have lsb:=h.lsb
 have lyb:=h.lyb
 have lsl:=h.lsl
 have lob:=h.lob
 have HX:=hide hx
 have HBD:=hide hb
 have hq8:=hb.q8
 obtain ⟨hb0,a0,n0,cap0,cl0,la0,rfl⟩:=hx.form
 have H:=hide h
 have HF:=hide hF
 have X:=hide (RBx.mk' (x0:=.int .i64 (kindOf B:Nat)) (x1:=.string hb0) (x2:=.slice a0 n0 cap0) (x3:=.bool cl0) (x4:=.bool la0) h)
 clear h hx hF hb
 have Zhm:=hide hm
 clear hm
 have Zh2:=hide h2
 clear h2
 have Zh5:=hide h5
 clear h5
 have Zh6:=hide h6
 clear h6
 have Zh7:=hide h7
 clear h7
 have Zh8:=hide h8
 clear h8
 go_enter Tryz.func135,Tryz.ntmps135
 iterate 9 go_step
 refine list_at (fun W=>RBx w W F A c now s [] (.int .i64 (kindOf B:Nat)) (.string hb0) (.slice a0 n0 cap0) (.bool cl0) (.bool la0)) X.out ?_
 rintro W hX
 have HXX:=hide hX
 have hz:=hX.lt
 obtain ⟨y0,y1,y2,y3,y4⟩:=hX.hrd.cell
 have H0:=hide hX.at'
 have B0:=hide ((RB.refl A w).below lob lsb hX.bel)
 have V0:=hide hX.ev
 have d1:=hX.at'.lst
 have d2:=hX.at'.ptr
 have c0:=hX.at'.mode
 have c10:=hX.at'.block
 have f0:=hX.at'.zsb 0
 have f10:=hX.at'.zsb 10
 have n1:=hX.at'.ok.h3
 have n2:=hX.at'.ok.h5
 have n1':=Ne.symm n1
 have n2':=Ne.symm n2
 clear hX X
 have hm:=Zhm.out
 have h2:=Zh2.out
 have h5:=Zh5.out
 have h6:=Zh6.out
 have h7:=Zh7.out
 have h8:=Zh8.out
 have HM:=hide hm
 clear hm
 have HE:Hid (rreceiving c now A.i s B = none):=by
  cases B with
  | data hd ps cl la=>exact absurd rfl h2
  | none n =>
   unfold Hid rreceiving
   simp only
   rw [if_neg (show ¬ n = 1 from h5),if_neg (show ¬ n = 4 from h6),if_neg (show ¬ n = 3 from h7),if_neg (show ¬ n = 5 from h8)]
 have m2:((kindOf B:Int) == 2) = false:=by simp; omega
 have m1:((kindOf B:Int) == 1) = false:=by simp; omega
 have m4:((kindOf B:Int) == 4) = false:=by simp; omega
 have m3:((kindOf B:Int) == 3) = false:=by simp; omega
 have m5:((kindOf B:Int) == 5) = false:=by simp; omega
 clear h2 h5 h6 h7 h8
 have V3:=V0
 clear d1 d2 c0 c10 f0 f10
 obtain ⟨⟨x0,x1,x2,x3,x4,x5⟩,q0,q1,q2,q3,q4,q5⟩:=Ev0.all V3.out
 go_wp2
 (try simp only [Exit.inBlock,Exit.then])
 refine bodyPost_ret (results_evb rfl _ _ (w.heap.size + 1) rfl (EvAt.all V3.out)) rfl ?_
 exact rnames_end (d:=(s,[],none)) (b:=false) H0.out B0.out (fun _ k=>Or.inl k) (fun k=>absurd (HF.out _ k) (by omega)) (by omega) H.out rfl (fun k=>(by cases k)) (fun _=>⟨HE.out,rfl,H0.out,fun k=>absurd (HF.out _ k) (by omega)⟩)
theorem rrec_data (F:Nat → Prop) (A:RAd) (c:Cfg) (now:Nat) (s:RS) (B:Ans) (x:Value) (w:World) (h:RAt w F A c now s []) (hF:∀ g,F g → g < w.heap.size) (hx:RHrd w F x B) (hb:RBd c now A.i s) (hm:s.mode = 3) (hd:List UInt8) (ps:List (List UInt8)) (cl la:Bool) (h5:B = .data hd ps cl la) :
  Calls Tryz.prog 135 #[.pointer (some ⟨A.yb,0,none⟩),.int .i64 A.i,x] w fun e w'=>RNames w F A c now s (rreceiving c now A.i s B) e w':=by
 have hi:=h.ok.i
 have lsb:=h.lsb
 have lyb:=h.lyb
 have lsl:=h.lsl
 have lob:=h.lob
 have HX:=hide hx
 have HBD:=hide hb
 have hq8:=hb.q8
 obtain ⟨hb0,a0,n0,cap0,cl0,la0,rfl⟩:=hx.form
 have H:=hide h
 have HF:=hide hF
 have X:=hide (RBx.mk' (x0:=.int .i64 (kindOf B:Nat)) (x1:=.string hb0) (x2:=.slice a0 n0 cap0) (x3:=.bool cl0) (x4:=.bool la0) h)
 clear h hx hF hb
 have Zhm:=hide hm
 clear hm
 have Zh5:=hide h5
 clear h5
 go_enter Tryz.func135,Tryz.ntmps135
 iterate 9 go_step
 refine list_at (fun W=>RBx w W F A c now s [] (.int .i64 (kindOf B:Nat)) (.string hb0) (.slice a0 n0 cap0) (.bool cl0) (.bool la0)) X.out ?_
 rintro W hX
 have HXX:=hide hX
 have hz:=hX.lt
 obtain ⟨y0,y1,y2,y3,y4⟩:=hX.hrd.cell
 have H0:=hide hX.at'
 have B0:=hide ((RB.refl A w).below lob lsb hX.bel)
 have V0:=hide hX.ev
 have d1:=hX.at'.lst
 have d2:=hX.at'.ptr
 have c0:=hX.at'.mode
 have c10:=hX.at'.block
 have f0:=hX.at'.zsb 0
 have f10:=hX.at'.zsb 10
 have n1:=hX.at'.ok.h3
 have n2:=hX.at'.ok.h5
 have n1':=Ne.symm n1
 have n2':=Ne.symm n2
 clear hX X
 have hm:=Zhm.out
 have h5:=Zh5.out
 have HM:=hide hm
 clear hm
 subst h5
 obtain ⟨v,lb,hxe,hxr,hxf,hxd,hxb⟩:=HX.out
 simp only [Value.agg.injEq,kindOf,Array.mk.injEq,List.cons.injEq,Value.string.injEq,Value.bool.injEq,and_true] at hxe
 obtain ⟨-,rfl,rfl,rfl,rfl⟩:=hxe
 have HE:Hid (rreceiving c now A.i s (.data hd ps cl0 la0) = some (rtakes c now A.i s ⟨hd,ps,cl0,la0⟩)):=rfl
 have hxr2:=row_keep hxr (w':=W) (fun g _ hl=>HXX.out.bel.block g hl)
 have HXR:=hide hxr2
 have HXF:=hide hxf
 have HXD:=hide hxd
 have HXB:=hide hxb
 clear hxr hxr2 hxf hxd hxb HX
 simp only [kindOf] at y0
 go_wp2_with fail
 refine (rtakes_any F A c now s ⟨hd,ps,cl0,la0⟩ _ lb _ H0.out (fun g k=>by have:=HF.out g k; omega) HXR.out HXF.out HXD.out HXB.out HBD.out HM.out).mono ?_
 rintro e w1 ⟨rfl,h1,b1⟩
 have B3:=hide (B0.out.trans b1)
 have V3:=hide (Ev0.rb V0.out b1 (by omega) (by omega))
 have H3:=hide h1
 obtain ⟨ek,est,en,eh,et,ec,hev⟩:=evV_form (rtakes c now A.i s ⟨hd,ps,cl0,la0⟩).2.2
 have HEV:=hide hev
 rw [hev]
 have hzn:w.heap.size + 1 ≠ w1.heap.size:=by have:=b1.size; omega
 clear h1 b1 hev y0 y1 y2 y3 y4 d1 d2 c0 c10 f0 f10
 have EA:∀ o,Ev0 (w1.alloc o) (w.heap.size + 1):=fun o=>EvAt.alloc V3.out o
 have x0:=fun o=>(EA o).all.1.1
 have x1:=fun o=>(EA o).all.1.2.1
 have x2:=fun o=>(EA o).all.1.2.2.1
 have x3:=fun o=>(EA o).all.1.2.2.2.1
 have x4:=fun o=>(EA o).all.1.2.2.2.2.1
 have x5:=fun o=>(EA o).all.1.2.2.2.2.2
 have q0:=fun o=>(EA o).all.2.1
 have q1:=fun o=>(EA o).all.2.2.1
 have q2:=fun o=>(EA o).all.2.2.2.1
 have q3:=fun o=>(EA o).all.2.2.2.2.1
 have q4:=fun o=>(EA o).all.2.2.2.2.2.1
 have q5:=fun o=>(EA o).all.2.2.2.2.2.2
 clear EA hzn
 go_wp2
 (try simp only [Exit.inBlock,Exit.then])
 refine bodyPost_ret (results_evb rfl _ _ (w.heap.size + 1) rfl (EvAt.all (EvAt.alloc V3.out _))) rfl ?_
 exact rnames_end (d:=rtakes c now A.i s ⟨hd,ps,cl0,la0⟩) (b:=true) (RAt.below H3.out (Below.allocN (Below.refl _ _) _)) (B3.out.below H3.out.lob H3.out.lsb (Below.allocN (Below.refl _ _) _)) (Plus.sub B0.out.size) (fun k=>k.elim (fun y=>absurd (HF.out _ y) (by omega)) (fun y=>by omega)) (by omega) H.out (by rw [show evV _ = _ from HEV.out]; rfl) (fun _=>HE.out) (fun k=>(by cases k))
theorem rreceiving_any (F:Nat → Prop) (A:RAd) (c:Cfg) (now:Nat) (s:RS) (B:Ans) (x:Value) (w:World) (h:RAt w F A c now s []) (hF:∀ g,F g → g < w.heap.size) (hx:RHrd w F x B) (hb:RBd c now A.i s) (hm:s.mode = 3) :
  Calls Tryz.prog 135 #[.pointer (some ⟨A.yb,0,none⟩),.int .i64 A.i,x] w fun e w'=>RNames w F A c now s (rreceiving c now A.i s B) e w':=by
 by_cases h2:kindOf B = 2
 ·obtain ⟨hd,ps,cl,la,e⟩:=hx.kind h2
  exact rrec_data F A c now s B x w h hF hx hb hm hd ps cl la e
 ·by_cases h5:kindOf B = 1
  ·exact rrec_torn F A c now s B x w h hF hx hb hm h5
  ·by_cases h6:kindOf B = 4
   ·exact rrec_ask F A c now s B x w h hF hx hb hm h6
   ·by_cases h7:kindOf B = 3
    ·exact rrec_bid F A c now s B x w h hF hx hb hm h7
    ·by_cases h8:kindOf B = 5
     ·exact rrec_end F A c now s B x w h hF hx hb hm h8
     ·exact rrec_none F A c now s B x w h hF hx hb hm h2 h5 h6 h7 h8
end Go.Proofs.YtlbpjcphhocdkaaGreat
