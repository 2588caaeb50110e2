/- The document's line: a tick. The document's line: a tick. The document's line: a tick. The document's line: a tick. The document's line: a tick, whole. -/
import Derived.Test.YtlbpjcphhocdkaaGreatQ36
import Derived.Test.YtlbpjcphhocdkaaGreatQ09
set_option maxRecDepth 1000000
set_option maxHeartbeats 16000000
namespace Go.Proofs.YtlbpjcphhocdkaaGreat
open Go.RowKit Go.Proofs.YtlbpjcphhocdkaaGreat.Mod Go.Proofs.YtlbpjcphhocdkaaGreat.Pst
theorem rtick_11 (F:Nat → Prop) (yb:Nat) (x:Ln) (w:World) (h:DocAt w F yb x) (hg:LGood x) (hgr:LGr x) (j0:x.s0.joined ≤ 1000000000000000) (j1:x.s1.joined ≤ 1000000000000000) (hnow:x.now ≤ 1000000000000) (ev0:Ev) (HK0:Hid (ev0.kind ≠ 0)) (ev1:Ev) (HK1:Hid (ev1.kind ≠ 0)) (HE0:Hid ((did0 x).2.2 = some ev0)) (HE1:Hid ((did1 x).2.2 = some ev1)) :
  Calls Tryz.prog 62 #[.pointer (some ⟨yb,0,none⟩)] w fun e w'=>∃ v,e = .returned v ∧ OwnE w' w.heap.size v (events x) ∧ DocAt w' (Plus F w) yb (tick x) ∧ Fr F w w':=by
 obtain ⟨r0,r1,hl,hr,hzy⟩:=h
 obtain ⟨sl,ob,b0,b1,F0,F1,h0,h1,n01,a1,a2,a3,a4,a5,f1,f2,f3,f4,f5⟩:=hl.at'
 obtain ⟨q0,o0⟩:=hg.s0
 obtain ⟨q1,o1⟩:=hg.s1
 have BD0:=hide (RBd.of (i:=0) hg.c hr.a o0 hg.b0 hgr.a j0 hnow)
 have BD1:=hide (RBd.of (i:=1) hg.c hr.b o1 hg.b1 hgr.b j1 hnow)
 have lyb:=h0.lyb
 have lsl0:=h0.lsl
 have lb00:=h0.lsb
 have lb10:=h1.lsb
 simp only at lyb lsl0 lb00 lb10
 have HC:=hide hg.c
 have T0:Hid (Two w F0 F1 yb sl ob b0 b1 x.c x.now r0 r1 x.on0 x.on1):=⟨h0,h1,hzy⟩
 have so0:=hg.o0
 have so1:=hg.o1
 have d1:=h0.now
 have z10:=hzy 10
 clear h0 h1 hzy hl
 go_enter Tryz.func62,Tryz.ntmps62
 go_wp2_with fail
 refine wp_atS (fun W=>Two W F0 F1 yb sl ob b0 b1 x.c (x.now + 1) r0 r1 x.on0 x.on1 ∧ Fr (fun g=>g = yb) w W) ⟨T0.out.now (x.now + 1),⟨rfl,rfl,rfl,by simp,fun g _ hn=>Below.heap_setCell _ _ _ _ hn⟩⟩ ?_
 rintro W1 ⟨t1,fr1⟩
 have T1:=hide t1
 have FR1:=hide fr1
 have hs1:=fr1.size
 refine (hears_any x.c HC.out yb ob 0 1 rfl ⟨x.on0.toArray⟩ ⟨x.on1.toArray⟩ W1 t1.a.onl t1.a.on t1.b.on t1.a.cfg.1 (by show x.on1.length ≤ 1000; omega)).mono ?_
 rintro e w2 ⟨v0,rfl,hv0,hb2⟩
 have hv0:RHrd w2 (fun g=>W1.heap.size ≤ g) v0 (hears0 x):=hv0
 generalize hBB0:hears0 x = B0 at hv0
 have HB0:=hide hBB0
 clear hBB0
 obtain ⟨ba0,aa0,na0,ca0,cla0,laa0,hva⟩:=hv0.form
 subst hva
 have HV0:=hide hv0
 have T2:=hide (t1.below hb2)
 have HB2:=hide hb2
 have hs2:=hb2.size
 clear t1 fr1 hv0 hb2 d1 z10
 go_wp2_with fail
 refine wp_atS (fun W=>Two W F0 F1 yb sl ob b0 b1 x.c (x.now + 1) r0 r1 x.on0 x.on1 ∧ Below w2.heap.size w2 W ∧ HrdAt W w2.heap.size (.int .i64 (kindOf B0:Nat)) (.string ba0) (.slice aa0 na0 ca0) (.bool cla0) (.bool laa0) ∧ w2.heap.size < W.heap.size) ⟨T2.out.below (Below.allocN (Below.refl _ _) _),Below.allocN (Below.refl _ _) _,heap_alloc_new w2 _,by simp⟩ ?_
 rintro W3 ⟨t3,hb3,x3,hs3⟩
 have X3:=hide x3
 have HB3:=hide hb3
 refine (hears_any x.c HC.out yb ob 1 0 rfl ⟨x.on1.toArray⟩ ⟨x.on0.toArray⟩ W3 t3.a.onl t3.b.on t3.a.on t3.a.cfg.1 (by show x.on0.length ≤ 1000; omega)).mono ?_
 rintro e w4 ⟨v1,rfl,hv1,hb4⟩
 have hv1:RHrd w4 (fun g=>W3.heap.size ≤ g) v1 (hears1 x):=hv1
 generalize hBB1:hears1 x = B1 at hv1
 have HB1:=hide hBB1
 clear hBB1
 obtain ⟨ba1,aa1,na1,ca1,cla1,laa1,hvb⟩:=hv1.form
 subst hvb
 have HV1:=hide hv1
 have T4:=hide (t3.below hb4)
 have HB4:=hide hb4
 have hs4:=hb4.size
 have X4:=hide (X3.out.below hb4 (lt_of_block X3.out))
 clear t3 hb3 x3 hv1 hb4
 have l0:∀ g,F0 g → g < w4.heap.size:=fun g k=>by have:=(a4 g k).2; omega
 have l1:∀ g,F1 g → g < w4.heap.size:=fun g k=>by have:=(a5 g k).2; omega
 have hy2:yb ≠ w2.heap.size:=by omega
 obtain ⟨y0,y1,y2,y3,y4⟩:=X4.out.cell
 have hx2:w2.heap.size < w4.heap.size:=lt_of_block X4.out
 have ya:∀ V o o',(((w4.setCell ⟨yb,12,none⟩ V).alloc o).alloc o').heap[w2.heap.size]? = w4.heap[w2.heap.size]?:=fun V o o'=>(Below.block (Below.allocN (Below.allocN (Below.refl (w4.setCell ⟨yb,12,none⟩ V).heap.size _) o) o') _ (by simpa using hx2)).trans (Below.heap_setCell _ _ _ _ (Ne.symm hy2))
 have u0:=fun V o o'=>(World.cell?_of_block (a:=⟨w2.heap.size,0,none⟩) (ya V o o')).trans y0
 have u1:=fun V o o'=>(World.cell?_of_block (a:=⟨w2.heap.size,1,none⟩) (ya V o o')).trans y1
 have u2:=fun V o o'=>(World.cell?_of_block (a:=⟨w2.heap.size,2,none⟩) (ya V o o')).trans y2
 have u3:=fun V o o'=>(World.cell?_of_block (a:=⟨w2.heap.size,3,none⟩) (ya V o o')).trans y3
 have u4:=fun V o o'=>(World.cell?_of_block (a:=⟨w2.heap.size,4,none⟩) (ya V o o')).trans y4
 have v12:=T4.out.a.onl
 have yb4:yb < w4.heap.size:=by omega
 have w12:∀ o o',((w4.alloc o).alloc o').cell? ⟨yb,12,none⟩ = some (.slice (some ⟨ob,0,none⟩) 2 2):=fun o o'=>(Below.cell (p:=⟨yb,12,none⟩) (Below.allocN (Below.allocN (Below.refl w4.heap.size w4) o) o') yb4).trans v12
 have z12:∀ o o',((w4.alloc o).alloc o').frozen? ⟨yb,12,none⟩ = false:=fun o o'=>(Below.frozen (p:=⟨yb,12,none⟩) (Below.allocN (Below.allocN (Below.refl w4.heap.size w4) o) o') yb4).trans (T4.out.z 12)
 clear ya v12 y0 y1 y2 y3 y4
 go_wp2_with fail
 have hW:(((w4.setCell ⟨yb,12,none⟩ (.slice (some ⟨w4.heap.size + 1,0,none⟩) 2 2)).alloc (.cells #[.int .i64 (kindOf B1:Nat),.string ba1,.slice aa1 na1 ca1,.bool cla1,.bool laa1] 98)).alloc (.cells #[.string ⟨#[]⟩,.string ⟨#[]⟩] 9)) = (((w4.alloc (.cells #[.int .i64 (kindOf B1:Nat),.string ba1,.slice aa1 na1 ca1,.bool cla1,.bool laa1] 98)).alloc (.cells #[.string ⟨#[]⟩,.string ⟨#[]⟩] 9)).setCell ⟨yb,12,none⟩ (.slice (some ⟨(w4.alloc (.cells #[.int .i64 (kindOf B1:Nat),.string ba1,.slice aa1 na1 ca1,.bool cla1,.bool laa1] 98)).heap.size,0,none⟩) 2 2)):=by
  rw [World.setCell_alloc_past _ _ _ _ (by simp; omega),World.setCell_alloc_past _ _ _ _ yb4]
  simp
 rw [hW]
 have hb5:Below w4.heap.size w4 (w4.alloc (.cells #[.int .i64 (kindOf B1:Nat),.string ba1,.slice aa1 na1 ca1,.bool cla1,.bool laa1] 98)):=Below.allocN (Below.refl _ _) _
 have t5:=(T4.out.below hb5).onl (fun g k=>Nat.lt_of_lt_of_le (l0 g k) hb5.size) (fun g k=>Nat.lt_of_lt_of_le (l1 g k) hb5.size)
 have x5:HrdAt (w4.alloc (.cells #[.int .i64 (kindOf B1:Nat),.string ba1,.slice aa1 na1 ca1,.bool cla1,.bool laa1] 98)) w4.heap.size (.int .i64 (kindOf B1:Nat)) (.string ba1) (.slice aa1 na1 ca1) (.bool cla1) (.bool laa1):=heap_alloc_new w4 _
 have hs5:(w4.alloc (.cells #[.int .i64 (kindOf B1:Nat),.string ba1,.slice aa1 na1 ca1,.bool cla1,.bool laa1] 98)).heap.size = w4.heap.size + 1:=by simp
 clear hW
 generalize (w4.alloc (.cells #[.int .i64 (kindOf B1:Nat),.string ba1,.slice aa1 na1 ca1,.bool cla1,.bool laa1] 98)) = V5 at *
 refine wp_atS (fun W=>TkA w W F0 F1 yb sl (w4.heap.size + 1) b0 b1 x.c (x.now + 1) r0 r1 W1.heap.size w2.heap.size W3.heap.size w4.heap.size (.agg #[.int .i64 (kindOf B0:Nat),.string ba0,.slice aa0 na0 ca0,.bool cla0,.bool laa0]) B0 (.agg #[.int .i64 (kindOf B1:Nat),.string ba1,.slice aa1 na1 ca1,.bool cla1,.bool laa1]) B1 ∧ HrdAt W w4.heap.size (.int .i64 (kindOf B1:Nat)) (.string ba1) (.slice aa1 na1 ca1) (.bool cla1) (.bool laa1)) ?_ ?_
 ·exact ⟨tka_mk FR1.out HB2.out HB3.out HB4.out hb5 hs5 lyb lsl0 lb00 lb10 t5 HV0.out HV1.out,by
   refine (Below.heap_setCell _ _ _ _ (by simp only; omega)).trans ((Below.heap_alloc _ _ _ (by omega)).trans x5)⟩
 rintro W5 ⟨tk,x5'⟩
 have TK:=hide tk
 have X5:=hide x5'
 have hs5':=tk.sz
 refine (rone_any _ ⟨yb,sl,w4.heap.size + 1,b0,0⟩ x.c (x.now + 1) r0 B0 _ W5 tk.two.a (fun g k=>k.elim (fun y=>by have:=l0 g y; omega) (fun y=>by omega)) tk.h0 BD0.out).mono ?_
 rintro e w6 ⟨rfl,k6,b6⟩
 have TB:=hide (tkb_mk tk (by omega) (by omega) (by omega) n01 a2 (fun g k=>(a5 g k).2) lb00 k6 b6)
 have X6:=hide (hrd_rb x5' b6 (by simp only; omega) (by simp only; omega))
 have hs6:=b6.size
 have hD0:(rone x.c (x.now + 1) 0 r0 B0).2.2 = (did0 x).2.2:=by rw [← HB0.out]; exact (same_one (c:=x.c) (now:=x.now + 1) (i:=0) (h:=hears0 x) hr.a).ev
 have hD1:(rone x.c (x.now + 1) 1 r1 B1).2.2 = (did1 x).2.2:=by rw [← HB1.out]; exact (same_one (c:=x.c) (now:=x.now + 1) (i:=1) (h:=hears1 x) hr.b).ev
 clear tk x5' k6 b6 t5 x5 hb5 u0 u1 u2 u3 u4 w12 z12
 have he0:(rone x.c (x.now + 1) 0 r0 B0).2.2 = some ev0:=by rw [hD0]; exact HE0.out
 rw [he0,evV_some]
 have hk0:((ev0.kind:Int) != 0) = true:=by simp only [bne_iff_ne,ne_eq]; have:=HK0.out; omega
 clear he0
 go_wp2_with (first | (at_builtin; go_loud (refine app_ev (w6.alloc _) ev0 rfl (.tmp 30) (.tmp 32) rfl w6.heap.size _ [] _ 1 rfl rfl (by simp) (OwnE.nil _ _) (by simp) w6 (Below.allocN (Below.refl _ _) _) (by simp) ?_; intro v7 W7 hv7 hb7 hs7; have HV7:=hide hv7; have HB7:=hide hb7; have X7:=hide (X6.out.below hb7 (lt_of_block X6.out)); obtain ⟨u0,u1,u2,u3,u4⟩:=X7.out.cell; obtain ⟨va7,vc7,hvv7⟩:=row_formS hv7; subst hvv7; clear hv7 hb7)))
 refine wp_atS (fun W=>TkB w W F0 F1 yb sl (w4.heap.size + 1) b0 b1 x.c (x.now + 1) (rone x.c (x.now + 1) 0 r0 B0).1 (rone x.c (x.now + 1) 0 r0 B0).2.1 r1 W1.heap.size w2.heap.size W3.heap.size w4.heap.size W5.heap.size w6.heap.size (.agg #[.int .i64 (kindOf B1:Nat),.string ba1,.slice aa1 na1 ca1,.bool cla1,.bool laa1]) B1 ∧ OwnE W w6.heap.size (.slice va7 1 vc7) [ev0] ∧ w6.heap.size ≤ W.heap.size) ⟨TB.out.below HB7.out,HV7.out,HB7.out.size⟩ ?_
 rintro V ⟨tv,ov,sv⟩
 have TV:=hide tv
 have OV:=hide ov
 refine (rone_any _ ⟨yb,sl,w4.heap.size + 1,b1,1⟩ x.c (x.now + 1) r1 B1 _ V tv.b (fun g k=>k.elim (fun y=>by have:=l1 g y; omega) (fun y=>by omega)) tv.h1 BD1.out).mono ?_
 rintro e w8 ⟨rfl,k8,b8⟩
 have K8:=hide k8
 have B8:=hide b8
 have hs8:=b8.size
 have O8:=hide (OwnE.keep ov (w':=w8) (fun g hg hl=>b8.block g hl (by simp only; omega) (by simp only; omega)))
 clear tv ov k8 b8 u0 u1 u2 u3 u4
 have he1:(rone x.c (x.now + 1) 1 r1 B1).2.2 = some ev1:=by rw [hD1]; exact HE1.out
 rw [he1,evV_some]
 have hk1:((ev1.kind:Int) != 0) = true:=by simp only [bne_iff_ne,ne_eq]; have:=HK1.out; omega
 clear he1
 go_wp2_with (first | (at_builtin; refine app_ev1 (w8.alloc _) ev1 rfl (.tmp 40) (.tmp 42) rfl w6.heap.size _ [ev0] _ 1 rfl rfl (by simp) (O8.out.alloc _) (by simp) (by simp; omega) ?_; intro v9 W9 hv9 hf9 hk9; have HV9:=hide hv9; have HF9:=hide hf9; clear hv9 hf9 hk9))
 go_ret
 obtain ⟨rr,ro0,ro1,rev⟩:=rtick_rel (x:=x) hr
 rw [HB0.out] at rr ro0
 rw [HB1.out] at rr ro1
 obtain ⟨D,FR⟩:=tkc_mk (w9:=W9) TV.out (by omega) ⟨by omega,by omega,by omega,by omega,by omega,by omega,by omega⟩ n01 a1 a2 a3 a4 a5 f1 f2 f4 f5 lb00 lb10 lyb lsl0 K8.out B8.out (fun g hl hc=>(HF9.out.block g (by simp; omega) (fun e=>by have:=(World.ownsRow.lt OV.out g e); omega)).trans (Below.heap_alloc _ _ _ hl)) (HF9.out.os) (HF9.out.tape) (HF9.out.output) (by have:=HF9.out.size; simp at this; omega) rr ro0 ro1
 refine ⟨_,rfl,?_,D,FR⟩
 have hev:events x = [ev0] ++ [ev1]:=by show (did0 x).2.2.toList ++ (did1 x).2.2.toList = _; rw [HE0.out,HE1.out]; rfl
 rw [hev]
 exact HV9.out.baseE (by omega)
theorem rtick_00 (F:Nat → Prop) (yb:Nat) (x:Ln) (w:World) (h:DocAt w F yb x) (hg:LGood x) (hgr:LGr x) (j0:x.s0.joined ≤ 1000000000000000) (j1:x.s1.joined ≤ 1000000000000000) (hnow:x.now ≤ 1000000000000) (HE0:Hid ((did0 x).2.2 = none)) (HE1:Hid ((did1 x).2.2 = none)) :
  Calls Tryz.prog 62 #[.pointer (some ⟨yb,0,none⟩)] w fun e w'=>∃ v,e = .returned v ∧ OwnE w' w.heap.size v (events x) ∧ DocAt w' (Plus F w) yb (tick x) ∧ Fr F w w':=by
 obtain ⟨r0,r1,hl,hr,hzy⟩:=h
 obtain ⟨sl,ob,b0,b1,F0,F1,h0,h1,n01,a1,a2,a3,a4,a5,f1,f2,f3,f4,f5⟩:=hl.at'
 obtain ⟨q0,o0⟩:=hg.s0
 obtain ⟨q1,o1⟩:=hg.s1
 have BD0:=hide (RBd.of (i:=0) hg.c hr.a o0 hg.b0 hgr.a j0 hnow)
 have BD1:=hide (RBd.of (i:=1) hg.c hr.b o1 hg.b1 hgr.b j1 hnow)
 have lyb:=h0.lyb
 have lsl0:=h0.lsl
 have lb00:=h0.lsb
 have lb10:=h1.lsb
 simp only at lyb lsl0 lb00 lb10
 have HC:=hide hg.c
 have T0:Hid (Two w F0 F1 yb sl ob b0 b1 x.c x.now r0 r1 x.on0 x.on1):=⟨h0,h1,hzy⟩
 have so0:=hg.o0
 have so1:=hg.o1
 have d1:=h0.now
 have z10:=hzy 10
 clear h0 h1 hzy hl
 go_enter Tryz.func62,Tryz.ntmps62
 go_wp2_with fail
 refine wp_atS (fun W=>Two W F0 F1 yb sl ob b0 b1 x.c (x.now + 1) r0 r1 x.on0 x.on1 ∧ Fr (fun g=>g = yb) w W) ⟨T0.out.now (x.now + 1),⟨rfl,rfl,rfl,by simp,fun g _ hn=>Below.heap_setCell _ _ _ _ hn⟩⟩ ?_
 rintro W1 ⟨t1,fr1⟩
 have T1:=hide t1
 have FR1:=hide fr1
 have hs1:=fr1.size
 refine (hears_any x.c HC.out yb ob 0 1 rfl ⟨x.on0.toArray⟩ ⟨x.on1.toArray⟩ W1 t1.a.onl t1.a.on t1.b.on t1.a.cfg.1 (by show x.on1.length ≤ 1000; omega)).mono ?_
 rintro e w2 ⟨v0,rfl,hv0,hb2⟩
 have hv0:RHrd w2 (fun g=>W1.heap.size ≤ g) v0 (hears0 x):=hv0
 generalize hBB0:hears0 x = B0 at hv0
 have HB0:=hide hBB0
 clear hBB0
 obtain ⟨ba0,aa0,na0,ca0,cla0,laa0,hva⟩:=hv0.form
 subst hva
 have HV0:=hide hv0
 have T2:=hide (t1.below hb2)
 have HB2:=hide hb2
 have hs2:=hb2.size
 clear t1 fr1 hv0 hb2 d1 z10
 go_wp2_with fail
 refine wp_atS (fun W=>Two W F0 F1 yb sl ob b0 b1 x.c (x.now + 1) r0 r1 x.on0 x.on1 ∧ Below w2.heap.size w2 W ∧ HrdAt W w2.heap.size (.int .i64 (kindOf B0:Nat)) (.string ba0) (.slice aa0 na0 ca0) (.bool cla0) (.bool laa0) ∧ w2.heap.size < W.heap.size) ⟨T2.out.below (Below.allocN (Below.refl _ _) _),Below.allocN (Below.refl _ _) _,heap_alloc_new w2 _,by simp⟩ ?_
 rintro W3 ⟨t3,hb3,x3,hs3⟩
 have X3:=hide x3
 have HB3:=hide hb3
 refine (hears_any x.c HC.out yb ob 1 0 rfl ⟨x.on1.toArray⟩ ⟨x.on0.toArray⟩ W3 t3.a.onl t3.b.on t3.a.on t3.a.cfg.1 (by show x.on0.length ≤ 1000; omega)).mono ?_
 rintro e w4 ⟨v1,rfl,hv1,hb4⟩
 have hv1:RHrd w4 (fun g=>W3.heap.size ≤ g) v1 (hears1 x):=hv1
 generalize hBB1:hears1 x = B1 at hv1
 have HB1:=hide hBB1
 clear hBB1
 obtain ⟨ba1,aa1,na1,ca1,cla1,laa1,hvb⟩:=hv1.form
 subst hvb
 have HV1:=hide hv1
 have T4:=hide (t3.below hb4)
 have HB4:=hide hb4
 have hs4:=hb4.size
 have X4:=hide (X3.out.below hb4 (lt_of_block X3.out))
 clear t3 hb3 x3 hv1 hb4
 have l0:∀ g,F0 g → g < w4.heap.size:=fun g k=>by have:=(a4 g k).2; omega
 have l1:∀ g,F1 g → g < w4.heap.size:=fun g k=>by have:=(a5 g k).2; omega
 have hy2:yb ≠ w2.heap.size:=by omega
 obtain ⟨y0,y1,y2,y3,y4⟩:=X4.out.cell
 have hx2:w2.heap.size < w4.heap.size:=lt_of_block X4.out
 have ya:∀ V o o',(((w4.setCell ⟨yb,12,none⟩ V).alloc o).alloc o').heap[w2.heap.size]? = w4.heap[w2.heap.size]?:=fun V o o'=>(Below.block (Below.allocN (Below.allocN (Below.refl (w4.setCell ⟨yb,12,none⟩ V).heap.size _) o) o') _ (by simpa using hx2)).trans (Below.heap_setCell _ _ _ _ (Ne.symm hy2))
 have u0:=fun V o o'=>(World.cell?_of_block (a:=⟨w2.heap.size,0,none⟩) (ya V o o')).trans y0
 have u1:=fun V o o'=>(World.cell?_of_block (a:=⟨w2.heap.size,1,none⟩) (ya V o o')).trans y1
 have u2:=fun V o o'=>(World.cell?_of_block (a:=⟨w2.heap.size,2,none⟩) (ya V o o')).trans y2
 have u3:=fun V o o'=>(World.cell?_of_block (a:=⟨w2.heap.size,3,none⟩) (ya V o o')).trans y3
 have u4:=fun V o o'=>(World.cell?_of_block (a:=⟨w2.heap.size,4,none⟩) (ya V o o')).trans y4
 have v12:=T4.out.a.onl
 have yb4:yb < w4.heap.size:=by omega
 have w12:∀ o o',((w4.alloc o).alloc o').cell? ⟨yb,12,none⟩ = some (.slice (some ⟨ob,0,none⟩) 2 2):=fun o o'=>(Below.cell (p:=⟨yb,12,none⟩) (Below.allocN (Below.allocN (Below.refl w4.heap.size w4) o) o') yb4).trans v12
 have z12:∀ o o',((w4.alloc o).alloc o').frozen? ⟨yb,12,none⟩ = false:=fun o o'=>(Below.frozen (p:=⟨yb,12,none⟩) (Below.allocN (Below.allocN (Below.refl w4.heap.size w4) o) o') yb4).trans (T4.out.z 12)
 clear ya v12 y0 y1 y2 y3 y4
 go_wp2_with fail
 have hW:(((w4.setCell ⟨yb,12,none⟩ (.slice (some ⟨w4.heap.size + 1,0,none⟩) 2 2)).alloc (.cells #[.int .i64 (kindOf B1:Nat),.string ba1,.slice aa1 na1 ca1,.bool cla1,.bool laa1] 98)).alloc (.cells #[.string ⟨#[]⟩,.string ⟨#[]⟩] 9)) = (((w4.alloc (.cells #[.int .i64 (kindOf B1:Nat),.string ba1,.slice aa1 na1 ca1,.bool cla1,.bool laa1] 98)).alloc (.cells #[.string ⟨#[]⟩,.string ⟨#[]⟩] 9)).setCell ⟨yb,12,none⟩ (.slice (some ⟨(w4.alloc (.cells #[.int .i64 (kindOf B1:Nat),.string ba1,.slice aa1 na1 ca1,.bool cla1,.bool laa1] 98)).heap.size,0,none⟩) 2 2)):=by
  rw [World.setCell_alloc_past _ _ _ _ (by simp; omega),World.setCell_alloc_past _ _ _ _ yb4]
  simp
 rw [hW]
 have hb5:Below w4.heap.size w4 (w4.alloc (.cells #[.int .i64 (kindOf B1:Nat),.string ba1,.slice aa1 na1 ca1,.bool cla1,.bool laa1] 98)):=Below.allocN (Below.refl _ _) _
 have t5:=(T4.out.below hb5).onl (fun g k=>Nat.lt_of_lt_of_le (l0 g k) hb5.size) (fun g k=>Nat.lt_of_lt_of_le (l1 g k) hb5.size)
 have x5:HrdAt (w4.alloc (.cells #[.int .i64 (kindOf B1:Nat),.string ba1,.slice aa1 na1 ca1,.bool cla1,.bool laa1] 98)) w4.heap.size (.int .i64 (kindOf B1:Nat)) (.string ba1) (.slice aa1 na1 ca1) (.bool cla1) (.bool laa1):=heap_alloc_new w4 _
 have hs5:(w4.alloc (.cells #[.int .i64 (kindOf B1:Nat),.string ba1,.slice aa1 na1 ca1,.bool cla1,.bool laa1] 98)).heap.size = w4.heap.size + 1:=by simp
 clear hW
 generalize (w4.alloc (.cells #[.int .i64 (kindOf B1:Nat),.string ba1,.slice aa1 na1 ca1,.bool cla1,.bool laa1] 98)) = V5 at *
 refine wp_atS (fun W=>TkA w W F0 F1 yb sl (w4.heap.size + 1) b0 b1 x.c (x.now + 1) r0 r1 W1.heap.size w2.heap.size W3.heap.size w4.heap.size (.agg #[.int .i64 (kindOf B0:Nat),.string ba0,.slice aa0 na0 ca0,.bool cla0,.bool laa0]) B0 (.agg #[.int .i64 (kindOf B1:Nat),.string ba1,.slice aa1 na1 ca1,.bool cla1,.bool laa1]) B1 ∧ HrdAt W w4.heap.size (.int .i64 (kindOf B1:Nat)) (.string ba1) (.slice aa1 na1 ca1) (.bool cla1) (.bool laa1)) ?_ ?_
 ·exact ⟨tka_mk FR1.out HB2.out HB3.out HB4.out hb5 hs5 lyb lsl0 lb00 lb10 t5 HV0.out HV1.out,by
   refine (Below.heap_setCell _ _ _ _ (by simp only; omega)).trans ((Below.heap_alloc _ _ _ (by omega)).trans x5)⟩
 rintro W5 ⟨tk,x5'⟩
 have TK:=hide tk
 have X5:=hide x5'
 have hs5':=tk.sz
 refine (rone_any _ ⟨yb,sl,w4.heap.size + 1,b0,0⟩ x.c (x.now + 1) r0 B0 _ W5 tk.two.a (fun g k=>k.elim (fun y=>by have:=l0 g y; omega) (fun y=>by omega)) tk.h0 BD0.out).mono ?_
 rintro e w6 ⟨rfl,k6,b6⟩
 have TB:=hide (tkb_mk tk (by omega) (by omega) (by omega) n01 a2 (fun g k=>(a5 g k).2) lb00 k6 b6)
 have X6:=hide (hrd_rb x5' b6 (by simp only; omega) (by simp only; omega))
 have hs6:=b6.size
 have hD0:(rone x.c (x.now + 1) 0 r0 B0).2.2 = (did0 x).2.2:=by rw [← HB0.out]; exact (same_one (c:=x.c) (now:=x.now + 1) (i:=0) (h:=hears0 x) hr.a).ev
 have hD1:(rone x.c (x.now + 1) 1 r1 B1).2.2 = (did1 x).2.2:=by rw [← HB1.out]; exact (same_one (c:=x.c) (now:=x.now + 1) (i:=1) (h:=hears1 x) hr.b).ev
 clear tk x5' k6 b6 t5 x5 hb5 u0 u1 u2 u3 u4 w12 z12
 have he0:(rone x.c (x.now + 1) 0 r0 B0).2.2 = none:=by rw [hD0]; exact HE0.out
 rw [he0,evV_none]
 have TB6:=TB
 have bx:∀ o,HrdAt (w6.alloc o) w4.heap.size (.int .i64 (kindOf B1:Nat)) (.string ba1) (.slice aa1 na1 ca1) (.bool cla1) (.bool laa1):=fun o=>(Below.heap_alloc _ _ _ (lt_of_block X6.out)).trans X6.out
 have u0:=fun o=>(bx o).cell.1
 have u1:=fun o=>(bx o).cell.2.1
 have u2:=fun o=>(bx o).cell.2.2.1
 have u3:=fun o=>(bx o).cell.2.2.2.1
 have u4:=fun o=>(bx o).cell.2.2.2.2
 clear he0 bx
 go_wp2_with fail
 refine wp_atS (fun W=>TkB w W F0 F1 yb sl (w4.heap.size + 1) b0 b1 x.c (x.now + 1) (rone x.c (x.now + 1) 0 r0 B0).1 (rone x.c (x.now + 1) 0 r0 B0).2.1 r1 W1.heap.size w2.heap.size W3.heap.size w4.heap.size W5.heap.size w6.heap.size (.agg #[.int .i64 (kindOf B1:Nat),.string ba1,.slice aa1 na1 ca1,.bool cla1,.bool laa1]) B1 ∧ OwnE W w6.heap.size (.slice none 0 0) [] ∧ w6.heap.size ≤ W.heap.size) ⟨TB.out.below (Below.allocN (Below.refl _ _) _),OwnE.nil _ _,by simp⟩ ?_
 rintro V ⟨tv,ov,sv⟩
 have TV:=hide tv
 have OV:=hide ov
 refine (rone_any _ ⟨yb,sl,w4.heap.size + 1,b1,1⟩ x.c (x.now + 1) r1 B1 _ V tv.b (fun g k=>k.elim (fun y=>by have:=l1 g y; omega) (fun y=>by omega)) tv.h1 BD1.out).mono ?_
 rintro e w8 ⟨rfl,k8,b8⟩
 have K8:=hide k8
 have B8:=hide b8
 have hs8:=b8.size
 have O8:=hide (OwnE.keep ov (w':=w8) (fun g hg hl=>b8.block g hl (by simp only; omega) (by simp only; omega)))
 clear tv ov k8 b8 u0 u1 u2 u3 u4
 have he1:(rone x.c (x.now + 1) 1 r1 B1).2.2 = none:=by rw [hD1]; exact HE1.out
 rw [he1,evV_none]
 clear he1
 go_wp2
 go_ret
 obtain ⟨rr,ro0,ro1,rev⟩:=rtick_rel (x:=x) hr
 rw [HB0.out] at rr ro0
 rw [HB1.out] at rr ro1
 obtain ⟨D,FR⟩:=tkc_mk (w9:=w8.alloc _) TV.out (by omega) ⟨by omega,by omega,by omega,by omega,by omega,by omega,by omega⟩ n01 a1 a2 a3 a4 a5 f1 f2 f4 f5 lb00 lb10 lyb lsl0 K8.out B8.out (fun g hl _=>Below.heap_alloc _ _ _ hl) rfl rfl rfl (by simp) rr ro0 ro1
 refine ⟨_,rfl,?_,D,FR⟩
 have hev:events x = []:=by show (did0 x).2.2.toList ++ (did1 x).2.2.toList = _; rw [HE0.out,HE1.out]; rfl
 rw [hev]
 exact (O8.out.alloc _).baseE (by omega)
theorem rtick_01 (F:Nat → Prop) (yb:Nat) (x:Ln) (w:World) (h:DocAt w F yb x) (hg:LGood x) (hgr:LGr x) (j0:x.s0.joined ≤ 1000000000000000) (j1:x.s1.joined ≤ 1000000000000000) (hnow:x.now ≤ 1000000000000) (ev1:Ev) (HK1:Hid (ev1.kind ≠ 0)) (HE0:Hid ((did0 x).2.2 = none)) (HE1:Hid ((did1 x).2.2 = some ev1)) :
  Calls Tryz.prog 62 #[.pointer (some ⟨yb,0,none⟩)] w fun e w'=>∃ v,e = .returned v ∧ OwnE w' w.heap.size v (events x) ∧ DocAt w' (Plus F w) yb (tick x) ∧ Fr F w w':=by
 obtain ⟨r0,r1,hl,hr,hzy⟩:=h
 obtain ⟨sl,ob,b0,b1,F0,F1,h0,h1,n01,a1,a2,a3,a4,a5,f1,f2,f3,f4,f5⟩:=hl.at'
 obtain ⟨q0,o0⟩:=hg.s0
 obtain ⟨q1,o1⟩:=hg.s1
 have BD0:=hide (RBd.of (i:=0) hg.c hr.a o0 hg.b0 hgr.a j0 hnow)
 have BD1:=hide (RBd.of (i:=1) hg.c hr.b o1 hg.b1 hgr.b j1 hnow)
 have lyb:=h0.lyb
 have lsl0:=h0.lsl
 have lb00:=h0.lsb
 have lb10:=h1.lsb
 simp only at lyb lsl0 lb00 lb10
 have HC:=hide hg.c
 have T0:Hid (Two w F0 F1 yb sl ob b0 b1 x.c x.now r0 r1 x.on0 x.on1):=⟨h0,h1,hzy⟩
 have so0:=hg.o0
 have so1:=hg.o1
 have d1:=h0.now
 have z10:=hzy 10
 clear h0 h1 hzy hl
 go_enter Tryz.func62,Tryz.ntmps62
 go_wp2_with fail
 refine wp_atS (fun W=>Two W F0 F1 yb sl ob b0 b1 x.c (x.now + 1) r0 r1 x.on0 x.on1 ∧ Fr (fun g=>g = yb) w W) ⟨T0.out.now (x.now + 1),⟨rfl,rfl,rfl,by simp,fun g _ hn=>Below.heap_setCell _ _ _ _ hn⟩⟩ ?_
 rintro W1 ⟨t1,fr1⟩
 have T1:=hide t1
 have FR1:=hide fr1
 have hs1:=fr1.size
 refine (hears_any x.c HC.out yb ob 0 1 rfl ⟨x.on0.toArray⟩ ⟨x.on1.toArray⟩ W1 t1.a.onl t1.a.on t1.b.on t1.a.cfg.1 (by show x.on1.length ≤ 1000; omega)).mono ?_
 rintro e w2 ⟨v0,rfl,hv0,hb2⟩
 have hv0:RHrd w2 (fun g=>W1.heap.size ≤ g) v0 (hears0 x):=hv0
 generalize hBB0:hears0 x = B0 at hv0
 have HB0:=hide hBB0
 clear hBB0
 obtain ⟨ba0,aa0,na0,ca0,cla0,laa0,hva⟩:=hv0.form
 subst hva
 have HV0:=hide hv0
 have T2:=hide (t1.below hb2)
 have HB2:=hide hb2
 have hs2:=hb2.size
 clear t1 fr1 hv0 hb2 d1 z10
 go_wp2_with fail
 refine wp_atS (fun W=>Two W F0 F1 yb sl ob b0 b1 x.c (x.now + 1) r0 r1 x.on0 x.on1 ∧ Below w2.heap.size w2 W ∧ HrdAt W w2.heap.size (.int .i64 (kindOf B0:Nat)) (.string ba0) (.slice aa0 na0 ca0) (.bool cla0) (.bool laa0) ∧ w2.heap.size < W.heap.size) ⟨T2.out.below (Below.allocN (Below.refl _ _) _),Below.allocN (Below.refl _ _) _,heap_alloc_new w2 _,by simp⟩ ?_
 rintro W3 ⟨t3,hb3,x3,hs3⟩
 have X3:=hide x3
 have HB3:=hide hb3
 refine (hears_any x.c HC.out yb ob 1 0 rfl ⟨x.on1.toArray⟩ ⟨x.on0.toArray⟩ W3 t3.a.onl t3.b.on t3.a.on t3.a.cfg.1 (by show x.on0.length ≤ 1000; omega)).mono ?_
 rintro e w4 ⟨v1,rfl,hv1,hb4⟩
 have hv1:RHrd w4 (fun g=>W3.heap.size ≤ g) v1 (hears1 x):=hv1
 generalize hBB1:hears1 x = B1 at hv1
 have HB1:=hide hBB1
 clear hBB1
 obtain ⟨ba1,aa1,na1,ca1,cla1,laa1,hvb⟩:=hv1.form
 subst hvb
 have HV1:=hide hv1
 have T4:=hide (t3.below hb4)
 have HB4:=hide hb4
 have hs4:=hb4.size
 have X4:=hide (X3.out.below hb4 (lt_of_block X3.out))
 clear t3 hb3 x3 hv1 hb4
 have l0:∀ g,F0 g → g < w4.heap.size:=fun g k=>by have:=(a4 g k).2; omega
 have l1:∀ g,F1 g → g < w4.heap.size:=fun g k=>by have:=(a5 g k).2; omega
 have hy2:yb ≠ w2.heap.size:=by omega
 obtain ⟨y0,y1,y2,y3,y4⟩:=X4.out.cell
 have hx2:w2.heap.size < w4.heap.size:=lt_of_block X4.out
 have ya:∀ V o o',(((w4.setCell ⟨yb,12,none⟩ V).alloc o).alloc o').heap[w2.heap.size]? = w4.heap[w2.heap.size]?:=fun V o o'=>(Below.block (Below.allocN (Below.allocN (Below.refl (w4.setCell ⟨yb,12,none⟩ V).heap.size _) o) o') _ (by simpa using hx2)).trans (Below.heap_setCell _ _ _ _ (Ne.symm hy2))
 have u0:=fun V o o'=>(World.cell?_of_block (a:=⟨w2.heap.size,0,none⟩) (ya V o o')).trans y0
 have u1:=fun V o o'=>(World.cell?_of_block (a:=⟨w2.heap.size,1,none⟩) (ya V o o')).trans y1
 have u2:=fun V o o'=>(World.cell?_of_block (a:=⟨w2.heap.size,2,none⟩) (ya V o o')).trans y2
 have u3:=fun V o o'=>(World.cell?_of_block (a:=⟨w2.heap.size,3,none⟩) (ya V o o')).trans y3
 have u4:=fun V o o'=>(World.cell?_of_block (a:=⟨w2.heap.size,4,none⟩) (ya V o o')).trans y4
 have v12:=T4.out.a.onl
 have yb4:yb < w4.heap.size:=by omega
 have w12:∀ o o',((w4.alloc o).alloc o').cell? ⟨yb,12,none⟩ = some (.slice (some ⟨ob,0,none⟩) 2 2):=fun o o'=>(Below.cell (p:=⟨yb,12,none⟩) (Below.allocN (Below.allocN (Below.refl w4.heap.size w4) o) o') yb4).trans v12
 have z12:∀ o o',((w4.alloc o).alloc o').frozen? ⟨yb,12,none⟩ = false:=fun o o'=>(Below.frozen (p:=⟨yb,12,none⟩) (Below.allocN (Below.allocN (Below.refl w4.heap.size w4) o) o') yb4).trans (T4.out.z 12)
 clear ya v12 y0 y1 y2 y3 y4
 go_wp2_with fail
 have hW:(((w4.setCell ⟨yb,12,none⟩ (.slice (some ⟨w4.heap.size + 1,0,none⟩) 2 2)).alloc (.cells #[.int .i64 (kindOf B1:Nat),.string ba1,.slice aa1 na1 ca1,.bool cla1,.bool laa1] 98)).alloc (.cells #[.string ⟨#[]⟩,.string ⟨#[]⟩] 9)) = (((w4.alloc (.cells #[.int .i64 (kindOf B1:Nat),.string ba1,.slice aa1 na1 ca1,.bool cla1,.bool laa1] 98)).alloc (.cells #[.string ⟨#[]⟩,.string ⟨#[]⟩] 9)).setCell ⟨yb,12,none⟩ (.slice (some ⟨(w4.alloc (.cells #[.int .i64 (kindOf B1:Nat),.string ba1,.slice aa1 na1 ca1,.bool cla1,.bool laa1] 98)).heap.size,0,none⟩) 2 2)):=by
  rw [World.setCell_alloc_past _ _ _ _ (by simp; omega),World.setCell_alloc_past _ _ _ _ yb4]
  simp
 rw [hW]
 have hb5:Below w4.heap.size w4 (w4.alloc (.cells #[.int .i64 (kindOf B1:Nat),.string ba1,.slice aa1 na1 ca1,.bool cla1,.bool laa1] 98)):=Below.allocN (Below.refl _ _) _
 have t5:=(T4.out.below hb5).onl (fun g k=>Nat.lt_of_lt_of_le (l0 g k) hb5.size) (fun g k=>Nat.lt_of_lt_of_le (l1 g k) hb5.size)
 have x5:HrdAt (w4.alloc (.cells #[.int .i64 (kindOf B1:Nat),.string ba1,.slice aa1 na1 ca1,.bool cla1,.bool laa1] 98)) w4.heap.size (.int .i64 (kindOf B1:Nat)) (.string ba1) (.slice aa1 na1 ca1) (.bool cla1) (.bool laa1):=heap_alloc_new w4 _
 have hs5:(w4.alloc (.cells #[.int .i64 (kindOf B1:Nat),.string ba1,.slice aa1 na1 ca1,.bool cla1,.bool laa1] 98)).heap.size = w4.heap.size + 1:=by simp
 clear hW
 generalize (w4.alloc (.cells #[.int .i64 (kindOf B1:Nat),.string ba1,.slice aa1 na1 ca1,.bool cla1,.bool laa1] 98)) = V5 at *
 refine wp_atS (fun W=>TkA w W F0 F1 yb sl (w4.heap.size + 1) b0 b1 x.c (x.now + 1) r0 r1 W1.heap.size w2.heap.size W3.heap.size w4.heap.size (.agg #[.int .i64 (kindOf B0:Nat),.string ba0,.slice aa0 na0 ca0,.bool cla0,.bool laa0]) B0 (.agg #[.int .i64 (kindOf B1:Nat),.string ba1,.slice aa1 na1 ca1,.bool cla1,.bool laa1]) B1 ∧ HrdAt W w4.heap.size (.int .i64 (kindOf B1:Nat)) (.string ba1) (.slice aa1 na1 ca1) (.bool cla1) (.bool laa1)) ?_ ?_
 ·exact ⟨tka_mk FR1.out HB2.out HB3.out HB4.out hb5 hs5 lyb lsl0 lb00 lb10 t5 HV0.out HV1.out,by
   refine (Below.heap_setCell _ _ _ _ (by simp only; omega)).trans ((Below.heap_alloc _ _ _ (by omega)).trans x5)⟩
 rintro W5 ⟨tk,x5'⟩
 have TK:=hide tk
 have X5:=hide x5'
 have hs5':=tk.sz
 refine (rone_any _ ⟨yb,sl,w4.heap.size + 1,b0,0⟩ x.c (x.now + 1) r0 B0 _ W5 tk.two.a (fun g k=>k.elim (fun y=>by have:=l0 g y; omega) (fun y=>by omega)) tk.h0 BD0.out).mono ?_
 rintro e w6 ⟨rfl,k6,b6⟩
 have TB:=hide (tkb_mk tk (by omega) (by omega) (by omega) n01 a2 (fun g k=>(a5 g k).2) lb00 k6 b6)
 have X6:=hide (hrd_rb x5' b6 (by simp only; omega) (by simp only; omega))
 have hs6:=b6.size
 have hD0:(rone x.c (x.now + 1) 0 r0 B0).2.2 = (did0 x).2.2:=by rw [← HB0.out]; exact (same_one (c:=x.c) (now:=x.now + 1) (i:=0) (h:=hears0 x) hr.a).ev
 have hD1:(rone x.c (x.now + 1) 1 r1 B1).2.2 = (did1 x).2.2:=by rw [← HB1.out]; exact (same_one (c:=x.c) (now:=x.now + 1) (i:=1) (h:=hears1 x) hr.b).ev
 clear tk x5' k6 b6 t5 x5 hb5 u0 u1 u2 u3 u4 w12 z12
 have he0:(rone x.c (x.now + 1) 0 r0 B0).2.2 = none:=by rw [hD0]; exact HE0.out
 rw [he0,evV_none]
 have TB6:=TB
 have bx:∀ o,HrdAt (w6.alloc o) w4.heap.size (.int .i64 (kindOf B1:Nat)) (.string ba1) (.slice aa1 na1 ca1) (.bool cla1) (.bool laa1):=fun o=>(Below.heap_alloc _ _ _ (lt_of_block X6.out)).trans X6.out
 have u0:=fun o=>(bx o).cell.1
 have u1:=fun o=>(bx o).cell.2.1
 have u2:=fun o=>(bx o).cell.2.2.1
 have u3:=fun o=>(bx o).cell.2.2.2.1
 have u4:=fun o=>(bx o).cell.2.2.2.2
 clear he0 bx
 go_wp2_with fail
 refine wp_atS (fun W=>TkB w W F0 F1 yb sl (w4.heap.size + 1) b0 b1 x.c (x.now + 1) (rone x.c (x.now + 1) 0 r0 B0).1 (rone x.c (x.now + 1) 0 r0 B0).2.1 r1 W1.heap.size w2.heap.size W3.heap.size w4.heap.size W5.heap.size w6.heap.size (.agg #[.int .i64 (kindOf B1:Nat),.string ba1,.slice aa1 na1 ca1,.bool cla1,.bool laa1]) B1 ∧ OwnE W w6.heap.size (.slice none 0 0) [] ∧ w6.heap.size ≤ W.heap.size) ⟨TB.out.below (Below.allocN (Below.refl _ _) _),OwnE.nil _ _,by simp⟩ ?_
 rintro V ⟨tv,ov,sv⟩
 have TV:=hide tv
 have OV:=hide ov
 refine (rone_any _ ⟨yb,sl,w4.heap.size + 1,b1,1⟩ x.c (x.now + 1) r1 B1 _ V tv.b (fun g k=>k.elim (fun y=>by have:=l1 g y; omega) (fun y=>by omega)) tv.h1 BD1.out).mono ?_
 rintro e w8 ⟨rfl,k8,b8⟩
 have K8:=hide k8
 have B8:=hide b8
 have hs8:=b8.size
 have O8:=hide (OwnE.keep ov (w':=w8) (fun g hg hl=>b8.block g hl (by simp only; omega) (by simp only; omega)))
 clear tv ov k8 b8 u0 u1 u2 u3 u4
 have he1:(rone x.c (x.now + 1) 1 r1 B1).2.2 = some ev1:=by rw [hD1]; exact HE1.out
 rw [he1,evV_some]
 have hk1:((ev1.kind:Int) != 0) = true:=by simp only [bne_iff_ne,ne_eq]; have:=HK1.out; omega
 clear he1
 go_wp2_with (first | (at_builtin; refine app_ev1 (w8.alloc _) ev1 rfl (.tmp 40) (.tmp 42) rfl w6.heap.size _ [] _ 1 rfl rfl (by simp) (O8.out.alloc _) (by simp) (by simp; omega) ?_; intro v9 W9 hv9 hf9 hk9; have HV9:=hide hv9; have HF9:=hide hf9; clear hv9 hf9 hk9))
 go_ret
 obtain ⟨rr,ro0,ro1,rev⟩:=rtick_rel (x:=x) hr
 rw [HB0.out] at rr ro0
 rw [HB1.out] at rr ro1
 obtain ⟨D,FR⟩:=tkc_mk (w9:=W9) TV.out (by omega) ⟨by omega,by omega,by omega,by omega,by omega,by omega,by omega⟩ n01 a1 a2 a3 a4 a5 f1 f2 f4 f5 lb00 lb10 lyb lsl0 K8.out B8.out (fun g hl hc=>(HF9.out.block g (by simp; omega) (fun e=>by have:=(World.ownsRow.lt OV.out g e); omega)).trans (Below.heap_alloc _ _ _ hl)) (HF9.out.os) (HF9.out.tape) (HF9.out.output) (by have:=HF9.out.size; simp at this; omega) rr ro0 ro1
 refine ⟨_,rfl,?_,D,FR⟩
 have hev:events x = [ev1]:=by show (did0 x).2.2.toList ++ (did1 x).2.2.toList = _; rw [HE0.out,HE1.out]; rfl
 rw [hev]
 exact HV9.out.baseE (by omega)
theorem rtick_10 (F:Nat → Prop) (yb:Nat) (x:Ln) (w:World) (h:DocAt w F yb x) (hg:LGood x) (hgr:LGr x) (j0:x.s0.joined ≤ 1000000000000000) (j1:x.s1.joined ≤ 1000000000000000) (hnow:x.now ≤ 1000000000000) (ev0:Ev) (HK0:Hid (ev0.kind ≠ 0)) (HE0:Hid ((did0 x).2.2 = some ev0)) (HE1:Hid ((did1 x).2.2 = none)) :
  Calls Tryz.prog 62 #[.pointer (some ⟨yb,0,none⟩)] w fun e w'=>∃ v,e = .returned v ∧ OwnE w' w.heap.size v (events x) ∧ DocAt w' (Plus F w) yb (tick x) ∧ Fr F w w':=by
 obtain ⟨r0,r1,hl,hr,hzy⟩:=h
 obtain ⟨sl,ob,b0,b1,F0,F1,h0,h1,n01,a1,a2,a3,a4,a5,f1,f2,f3,f4,f5⟩:=hl.at'
 obtain ⟨q0,o0⟩:=hg.s0
 obtain ⟨q1,o1⟩:=hg.s1
 have BD0:=hide (RBd.of (i:=0) hg.c hr.a o0 hg.b0 hgr.a j0 hnow)
 have BD1:=hide (RBd.of (i:=1) hg.c hr.b o1 hg.b1 hgr.b j1 hnow)
 have lyb:=h0.lyb
 have lsl0:=h0.lsl
 have lb00:=h0.lsb
 have lb10:=h1.lsb
 simp only at lyb lsl0 lb00 lb10
 have HC:=hide hg.c
 have T0:Hid (Two w F0 F1 yb sl ob b0 b1 x.c x.now r0 r1 x.on0 x.on1):=⟨h0,h1,hzy⟩
 have so0:=hg.o0
 have so1:=hg.o1
 have d1:=h0.now
 have z10:=hzy 10
 clear h0 h1 hzy hl
 go_enter Tryz.func62,Tryz.ntmps62
 go_wp2_with fail
 refine wp_atS (fun W=>Two W F0 F1 yb sl ob b0 b1 x.c (x.now + 1) r0 r1 x.on0 x.on1 ∧ Fr (fun g=>g = yb) w W) ⟨T0.out.now (x.now + 1),⟨rfl,rfl,rfl,by simp,fun g _ hn=>Below.heap_setCell _ _ _ _ hn⟩⟩ ?_
 rintro W1 ⟨t1,fr1⟩
 have T1:=hide t1
 have FR1:=hide fr1
 have hs1:=fr1.size
 refine (hears_any x.c HC.out yb ob 0 1 rfl ⟨x.on0.toArray⟩ ⟨x.on1.toArray⟩ W1 t1.a.onl t1.a.on t1.b.on t1.a.cfg.1 (by show x.on1.length ≤ 1000; omega)).mono ?_
 rintro e w2 ⟨v0,rfl,hv0,hb2⟩
 have hv0:RHrd w2 (fun g=>W1.heap.size ≤ g) v0 (hears0 x):=hv0
 generalize hBB0:hears0 x = B0 at hv0
 have HB0:=hide hBB0
 clear hBB0
 obtain ⟨ba0,aa0,na0,ca0,cla0,laa0,hva⟩:=hv0.form
 subst hva
 have HV0:=hide hv0
 have T2:=hide (t1.below hb2)
 have HB2:=hide hb2
 have hs2:=hb2.size
 clear t1 fr1 hv0 hb2 d1 z10
 go_wp2_with fail
 refine wp_atS (fun W=>Two W F0 F1 yb sl ob b0 b1 x.c (x.now + 1) r0 r1 x.on0 x.on1 ∧ Below w2.heap.size w2 W ∧ HrdAt W w2.heap.size (.int .i64 (kindOf B0:Nat)) (.string ba0) (.slice aa0 na0 ca0) (.bool cla0) (.bool laa0) ∧ w2.heap.size < W.heap.size) ⟨T2.out.below (Below.allocN (Below.refl _ _) _),Below.allocN (Below.refl _ _) _,heap_alloc_new w2 _,by simp⟩ ?_
 rintro W3 ⟨t3,hb3,x3,hs3⟩
 have X3:=hide x3
 have HB3:=hide hb3
 refine (hears_any x.c HC.out yb ob 1 0 rfl ⟨x.on1.toArray⟩ ⟨x.on0.toArray⟩ W3 t3.a.onl t3.b.on t3.a.on t3.a.cfg.1 (by show x.on0.length ≤ 1000; omega)).mono ?_
 rintro e w4 ⟨v1,rfl,hv1,hb4⟩
 have hv1:RHrd w4 (fun g=>W3.heap.size ≤ g) v1 (hears1 x):=hv1
 generalize hBB1:hears1 x = B1 at hv1
 have HB1:=hide hBB1
 clear hBB1
 obtain ⟨ba1,aa1,na1,ca1,cla1,laa1,hvb⟩:=hv1.form
 subst hvb
 have HV1:=hide hv1
 have T4:=hide (t3.below hb4)
 have HB4:=hide hb4
 have hs4:=hb4.size
 have X4:=hide (X3.out.below hb4 (lt_of_block X3.out))
 clear t3 hb3 x3 hv1 hb4
 have l0:∀ g,F0 g → g < w4.heap.size:=fun g k=>by have:=(a4 g k).2; omega
 have l1:∀ g,F1 g → g < w4.heap.size:=fun g k=>by have:=(a5 g k).2; omega
 have hy2:yb ≠ w2.heap.size:=by omega
 obtain ⟨y0,y1,y2,y3,y4⟩:=X4.out.cell
 have hx2:w2.heap.size < w4.heap.size:=lt_of_block X4.out
 have ya:∀ V o o',(((w4.setCell ⟨yb,12,none⟩ V).alloc o).alloc o').heap[w2.heap.size]? = w4.heap[w2.heap.size]?:=fun V o o'=>(Below.block (Below.allocN (Below.allocN (Below.refl (w4.setCell ⟨yb,12,none⟩ V).heap.size _) o) o') _ (by simpa using hx2)).trans (Below.heap_setCell _ _ _ _ (Ne.symm hy2))
 have u0:=fun V o o'=>(World.cell?_of_block (a:=⟨w2.heap.size,0,none⟩) (ya V o o')).trans y0
 have u1:=fun V o o'=>(World.cell?_of_block (a:=⟨w2.heap.size,1,none⟩) (ya V o o')).trans y1
 have u2:=fun V o o'=>(World.cell?_of_block (a:=⟨w2.heap.size,2,none⟩) (ya V o o')).trans y2
 have u3:=fun V o o'=>(World.cell?_of_block (a:=⟨w2.heap.size,3,none⟩) (ya V o o')).trans y3
 have u4:=fun V o o'=>(World.cell?_of_block (a:=⟨w2.heap.size,4,none⟩) (ya V o o')).trans y4
 have v12:=T4.out.a.onl
 have yb4:yb < w4.heap.size:=by omega
 have w12:∀ o o',((w4.alloc o).alloc o').cell? ⟨yb,12,none⟩ = some (.slice (some ⟨ob,0,none⟩) 2 2):=fun o o'=>(Below.cell (p:=⟨yb,12,none⟩) (Below.allocN (Below.allocN (Below.refl w4.heap.size w4) o) o') yb4).trans v12
 have z12:∀ o o',((w4.alloc o).alloc o').frozen? ⟨yb,12,none⟩ = false:=fun o o'=>(Below.frozen (p:=⟨yb,12,none⟩) (Below.allocN (Below.allocN (Below.refl w4.heap.size w4) o) o') yb4).trans (T4.out.z 12)
 clear ya v12 y0 y1 y2 y3 y4
 go_wp2_with fail
 have hW:(((w4.setCell ⟨yb,12,none⟩ (.slice (some ⟨w4.heap.size + 1,0,none⟩) 2 2)).alloc (.cells #[.int .i64 (kindOf B1:Nat),.string ba1,.slice aa1 na1 ca1,.bool cla1,.bool laa1] 98)).alloc (.cells #[.string ⟨#[]⟩,.string ⟨#[]⟩] 9)) = (((w4.alloc (.cells #[.int .i64 (kindOf B1:Nat),.string ba1,.slice aa1 na1 ca1,.bool cla1,.bool laa1] 98)).alloc (.cells #[.string ⟨#[]⟩,.string ⟨#[]⟩] 9)).setCell ⟨yb,12,none⟩ (.slice (some ⟨(w4.alloc (.cells #[.int .i64 (kindOf B1:Nat),.string ba1,.slice aa1 na1 ca1,.bool cla1,.bool laa1] 98)).heap.size,0,none⟩) 2 2)):=by
  rw [World.setCell_alloc_past _ _ _ _ (by simp; omega),World.setCell_alloc_past _ _ _ _ yb4]
  simp
 rw [hW]
 have hb5:Below w4.heap.size w4 (w4.alloc (.cells #[.int .i64 (kindOf B1:Nat),.string ba1,.slice aa1 na1 ca1,.bool cla1,.bool laa1] 98)):=Below.allocN (Below.refl _ _) _
 have t5:=(T4.out.below hb5).onl (fun g k=>Nat.lt_of_lt_of_le (l0 g k) hb5.size) (fun g k=>Nat.lt_of_lt_of_le (l1 g k) hb5.size)
 have x5:HrdAt (w4.alloc (.cells #[.int .i64 (kindOf B1:Nat),.string ba1,.slice aa1 na1 ca1,.bool cla1,.bool laa1] 98)) w4.heap.size (.int .i64 (kindOf B1:Nat)) (.string ba1) (.slice aa1 na1 ca1) (.bool cla1) (.bool laa1):=heap_alloc_new w4 _
 have hs5:(w4.alloc (.cells #[.int .i64 (kindOf B1:Nat),.string ba1,.slice aa1 na1 ca1,.bool cla1,.bool laa1] 98)).heap.size = w4.heap.size + 1:=by simp
 clear hW
 generalize (w4.alloc (.cells #[.int .i64 (kindOf B1:Nat),.string ba1,.slice aa1 na1 ca1,.bool cla1,.bool laa1] 98)) = V5 at *
 refine wp_atS (fun W=>TkA w W F0 F1 yb sl (w4.heap.size + 1) b0 b1 x.c (x.now + 1) r0 r1 W1.heap.size w2.heap.size W3.heap.size w4.heap.size (.agg #[.int .i64 (kindOf B0:Nat),.string ba0,.slice aa0 na0 ca0,.bool cla0,.bool laa0]) B0 (.agg #[.int .i64 (kindOf B1:Nat),.string ba1,.slice aa1 na1 ca1,.bool cla1,.bool laa1]) B1 ∧ HrdAt W w4.heap.size (.int .i64 (kindOf B1:Nat)) (.string ba1) (.slice aa1 na1 ca1) (.bool cla1) (.bool laa1)) ?_ ?_
 ·exact ⟨tka_mk FR1.out HB2.out HB3.out HB4.out hb5 hs5 lyb lsl0 lb00 lb10 t5 HV0.out HV1.out,by
   refine (Below.heap_setCell _ _ _ _ (by simp only; omega)).trans ((Below.heap_alloc _ _ _ (by omega)).trans x5)⟩
 rintro W5 ⟨tk,x5'⟩
 have TK:=hide tk
 have X5:=hide x5'
 have hs5':=tk.sz
 refine (rone_any _ ⟨yb,sl,w4.heap.size + 1,b0,0⟩ x.c (x.now + 1) r0 B0 _ W5 tk.two.a (fun g k=>k.elim (fun y=>by have:=l0 g y; omega) (fun y=>by omega)) tk.h0 BD0.out).mono ?_
 rintro e w6 ⟨rfl,k6,b6⟩
 have TB:=hide (tkb_mk tk (by omega) (by omega) (by omega) n01 a2 (fun g k=>(a5 g k).2) lb00 k6 b6)
 have X6:=hide (hrd_rb x5' b6 (by simp only; omega) (by simp only; omega))
 have hs6:=b6.size
 have hD0:(rone x.c (x.now + 1) 0 r0 B0).2.2 = (did0 x).2.2:=by rw [← HB0.out]; exact (same_one (c:=x.c) (now:=x.now + 1) (i:=0) (h:=hears0 x) hr.a).ev
 have hD1:(rone x.c (x.now + 1) 1 r1 B1).2.2 = (did1 x).2.2:=by rw [← HB1.out]; exact (same_one (c:=x.c) (now:=x.now + 1) (i:=1) (h:=hears1 x) hr.b).ev
 clear tk x5' k6 b6 t5 x5 hb5 u0 u1 u2 u3 u4 w12 z12
 have he0:(rone x.c (x.now + 1) 0 r0 B0).2.2 = some ev0:=by rw [hD0]; exact HE0.out
 rw [he0,evV_some]
 have hk0:((ev0.kind:Int) != 0) = true:=by simp only [bne_iff_ne,ne_eq]; have:=HK0.out; omega
 clear he0
 go_wp2_with (first | (at_builtin; go_loud (refine app_ev (w6.alloc _) ev0 rfl (.tmp 30) (.tmp 32) rfl w6.heap.size _ [] _ 1 rfl rfl (by simp) (OwnE.nil _ _) (by simp) w6 (Below.allocN (Below.refl _ _) _) (by simp) ?_; intro v7 W7 hv7 hb7 hs7; have HV7:=hide hv7; have HB7:=hide hb7; have X7:=hide (X6.out.below hb7 (lt_of_block X6.out)); obtain ⟨u0,u1,u2,u3,u4⟩:=X7.out.cell; obtain ⟨va7,vc7,hvv7⟩:=row_formS hv7; subst hvv7; clear hv7 hb7)))
 refine wp_atS (fun W=>TkB w W F0 F1 yb sl (w4.heap.size + 1) b0 b1 x.c (x.now + 1) (rone x.c (x.now + 1) 0 r0 B0).1 (rone x.c (x.now + 1) 0 r0 B0).2.1 r1 W1.heap.size w2.heap.size W3.heap.size w4.heap.size W5.heap.size w6.heap.size (.agg #[.int .i64 (kindOf B1:Nat),.string ba1,.slice aa1 na1 ca1,.bool cla1,.bool laa1]) B1 ∧ OwnE W w6.heap.size (.slice va7 1 vc7) [ev0] ∧ w6.heap.size ≤ W.heap.size) ⟨TB.out.below HB7.out,HV7.out,HB7.out.size⟩ ?_
 rintro V ⟨tv,ov,sv⟩
 have TV:=hide tv
 have OV:=hide ov
 refine (rone_any _ ⟨yb,sl,w4.heap.size + 1,b1,1⟩ x.c (x.now + 1) r1 B1 _ V tv.b (fun g k=>k.elim (fun y=>by have:=l1 g y; omega) (fun y=>by omega)) tv.h1 BD1.out).mono ?_
 rintro e w8 ⟨rfl,k8,b8⟩
 have K8:=hide k8
 have B8:=hide b8
 have hs8:=b8.size
 have O8:=hide (OwnE.keep ov (w':=w8) (fun g hg hl=>b8.block g hl (by simp only; omega) (by simp only; omega)))
 clear tv ov k8 b8 u0 u1 u2 u3 u4
 have he1:(rone x.c (x.now + 1) 1 r1 B1).2.2 = none:=by rw [hD1]; exact HE1.out
 rw [he1,evV_none]
 clear he1
 go_wp2
 go_ret
 obtain ⟨rr,ro0,ro1,rev⟩:=rtick_rel (x:=x) hr
 rw [HB0.out] at rr ro0
 rw [HB1.out] at rr ro1
 obtain ⟨D,FR⟩:=tkc_mk (w9:=w8.alloc _) TV.out (by omega) ⟨by omega,by omega,by omega,by omega,by omega,by omega,by omega⟩ n01 a1 a2 a3 a4 a5 f1 f2 f4 f5 lb00 lb10 lyb lsl0 K8.out B8.out (fun g hl _=>Below.heap_alloc _ _ _ hl) rfl rfl rfl (by simp) rr ro0 ro1
 refine ⟨_,rfl,?_,D,FR⟩
 have hev:events x = [ev0]:=by show (did0 x).2.2.toList ++ (did1 x).2.2.toList = _; rw [HE0.out,HE1.out]; rfl
 rw [hev]
 exact (O8.out.alloc _).baseE (by omega)
theorem one_kind {c:Cfg} {now i:Nat} {s:Stn} {h:Ans} {e:Ev} (he:(one c now i s h).2.2 = some e):e.kind ≠ 0:=by
 have hlat:(later c now i s).2.2 = some e → e.kind ≠ 0:=by
  intro he
  unfold later at he
  split at he
  ·cases he; simp
  ·cases he
 have htak:∀ b,(takes c now i s b).2.2 = some e → e.kind ≠ 0:=by
  intro b he
  unfold takes at he
  split at he
  ·cases he
  ·split at he
   ·cases he; simp
   ·cases he
 have hov:(over c now i s).2.2 = some e → e.kind ≠ 0:=by
  intro he
  unfold over at he
  split at he
  ·cases he
  ·split at he
   ·cases he; simp
   ·cases he
 have hans:(answers c now s).2.2 = some e → e.kind ≠ 0:=by
  intro he
  unfold answers at he
  split at he <;> cases he
 unfold one at he
 cases hn:named c now i s h with
 | none =>
  rw [hn] at he
  simp only at he
  split at he
  ·exact hov he
  ·split at he <;> cases he
 | some d =>
  rw [hn] at he
  simp only at he
  unfold named at hn
  split at hn
  ·unfold bidding at hn
   split at hn
   ·cases hn; cases he
   ·split at hn
    ·cases hn; exact hlat he
    ·split at hn
     ·cases hn; exact hans he
     ·cases hn
  ·split at hn
   ·unfold sending at hn
    split at hn
    ·split at hn
     ·cases hn; cases he; simp
     ·cases hn; cases he
    ·split at hn
     ·split at hn
      ·cases hn; cases he; simp
      ·cases hn; cases he
     ·split at hn
      ·cases hn; exact hlat he
      ·cases hn
   ·split at hn
    ·unfold receiving at hn
     split at hn
     ·cases hn; exact htak _ he
     ·split at hn
      ·cases hn; cases he
      ·split at hn
       ·cases hn; cases he
       ·split at hn
        ·cases hn; exact hans he
        ·split at hn
         ·cases hn; cases he
         ·cases hn
    ·unfold idle at hn
     split at hn
     ·cases hn; exact hans he
     ·cases hn
theorem rtick_line (F:Nat → Prop) (yb:Nat) (x:Ln) (w:World) (h:DocAt w F yb x) (hg:LGood x) (hgr:LGr x) (j0:x.s0.joined ≤ 1000000000000000) (j1:x.s1.joined ≤ 1000000000000000) (hnow:x.now ≤ 1000000000000) :
  Calls Tryz.prog 62 #[.pointer (some ⟨yb,0,none⟩)] w fun e w'=>∃ v,e = .returned v ∧ OwnE w' w.heap.size v (events x) ∧ DocAt w' (Plus F w) yb (tick x) ∧ Fr F w w':=by
 cases e0:(did0 x).2.2 with
 | none =>
  cases e1:(did1 x).2.2 with
  | none=>exact rtick_00 F yb x w h hg hgr j0 j1 hnow e0 e1
  | some ev1=>exact rtick_01 F yb x w h hg hgr j0 j1 hnow ev1 (one_kind e1) e0 e1
 | some ev0 =>
  cases e1:(did1 x).2.2 with
  | none=>exact rtick_10 F yb x w h hg hgr j0 j1 hnow ev0 (one_kind e0) e0 e1
  | some ev1=>exact rtick_11 F yb x w h hg hgr j0 j1 hnow ev0 (one_kind e0) ev1 (one_kind e1) e0 e1
end Go.Proofs.YtlbpjcphhocdkaaGreat
