/- The law's World: a step: tick. The law's World: a step on a line: busy. The law's World: a step: busy. The law's World: a step on a line: fault. The law's World: a step: fault. The law's World: a step: sums. The law's .. -/
import Derived.Test.YtlbpjcphhocdkaaGreatQ49
import Derived.Test.YtlbpjcphhocdkaaGreatQ48
import Derived.Test.YtlbpjcphhocdkaaGreatQ41
import Derived.Test.YtlbpjcphhocdkaaGreatQ03
set_option maxRecDepth 1000000
set_option maxHeartbeats 16000000
namespace Go.Proofs.YtlbpjcphhocdkaaGreat
open Go.RowKit Go.Proofs.YtlbpjcphhocdkaaGreat.Mod Go.Proofs.YtlbpjcphhocdkaaGreat.Pst
theorem step_tick (wb:Nat) (A:Nat → Nat) (ps:List PA) (n:Nat) (o:LOp) (w:World) (h:WAt w A wb ps n) (hk:o.kind = 4) (hl:ps.length ≤ 1000000000) (hln:-9223372036854775808 ≤ o.line ∧ o.line ≤ 9223372036854775807) (ha:-9223372036854775808 ≤ o.a ∧ o.a ≤ 9223372036854775807) (hn:n ≤ 900000000) :
  Calls Tryz.prog 12 #[.pointer (some ⟨wb,0,none⟩),.agg (opCells o).toArray] w fun e w'=>e = .returned (.bool true) ∧ ∃ qs,qs.length ≤ ps.length + 1 ∧ Nx A wb qs (n + 128) w w':=by
 have d1:(o.kind == 1) = false:=by simp [hk]
 have d2:(o.kind == 2) = false:=by simp [hk]
 have d11:(o.kind == 11) = false:=by simp [hk]
 have d3:(o.kind == 3) = false:=by simp [hk]
 have d4:(o.kind == 4) = true:=by simp [hk]
 obtain ⟨vl,vk,xs,ks,hw,hf,hks⟩:=h
 obtain ⟨al,cl,rfl⟩:=hw.rp.form
 have hlt:=hw.lt
 have hne:wb ≠ w.heap.size:=by omega
 have c0:w.cell? ⟨wb,0,none⟩ = some (.slice al ps.length cl):=(cells_at hw.blk).1 0
 have HH:Hid (WAt w A wb ps n):=⟨_,vk,xs,ks,hw,hf,hks⟩
 have HWC:=hide hw
 have HLN:=hide hln
 have HA:=hide ha
 clear ha
 clear hw hf hks hk hln
 rcases Nat.eq_zero_or_pos ps.length with z | z
 ·have i0:((ps.length:Int) == 0) = true:=by simp [z]
  clear z
  unfold opCells
  go_enter Tryz.func12,Tryz.ntmps12
  go_wp2
  go_ret
  exact ⟨rfl,ps,Nat.le_succ _,(HH.out.le (Nat.le_add_right n 128)).nx (Below.allocN (Below.refl _ _) _)⟩
 ·have i0:((ps.length:Int) == 0) = false:=by simp; intro e; rw [e] at z; simp at z
  obtain ⟨K,hK,hKl⟩:∃ K:Nat,pickL o.line ps.length = (K:Int) ∧ K < ps.length:=by
   obtain ⟨a,b⟩:=pickL_lt o.line ps.length (by omega)
   exact ⟨(pickL o.line ps.length).toNat,(Int.toNat_of_nonneg a).symm,by omega⟩
  obtain ⟨p,hp⟩:∃ p,ps[K]? = some p:=⟨_,List.getElem?_eq_getElem hKl⟩
  have HPk:Hid (∀ W,Calls Tryz.prog 18 #[.int .i64 o.line,.int .i64 ps.length] W fun e w'=>e = .returned (.int .i64 (K:Int)) ∧ w' = W):=fun W=>by
   have:=pickL_any o.line ps.length W HLN.out.1 HLN.out.2 (by omega) (by omega)
   rw [hK] at this
   exact this
  obtain ⟨lb,cap',e,lbl,r0⟩:=HWC.out.rp.cell hp
  simp only [Value.slice.injEq,true_and] at e
  obtain ⟨rfl,rfl⟩:=e
  simp only [pSl] at r0
  have HP:=hide hp
  have hneb:lb ≠ w.heap.size:=by omega
  clear hp hK
  unfold opCells
  go_enter Tryz.func12,Tryz.ntmps12
  go_wp2_with fail
  obtain ⟨x0,hb0⟩:=box_one w (.cells (opCells o).toArray 39)
  unfold opCells at x0 hb0
  generalize w.alloc _ = W0 at *
  have X0:OpAt W0 w.heap.size o:=x0
  have HB0:=hide hb0
  have c0:W0.cell? ⟨wb,0,none⟩ = some (.slice (some ⟨lb,0,none⟩) ps.length cl):=(hb0.cell (p:=⟨wb,0,none⟩) hlt).trans c0
  have r0:W0.cell? ⟨lb,K,none⟩ = some (.pointer (some ⟨p.pb,0,none⟩)):=(hb0.cell (p:=⟨lb,K,none⟩) lbl).trans r0
  have o1:W0.cell? ⟨w.heap.size,1,none⟩ = some (.int .i64 o.line):=X0.cell 1
  have HX:=hide x0
  have hKi:(K:Int) < (ps.length:Int):=by omega
  clear x0 hb0 X0 z
  go_quiet (exact Calls.quiet_of_same (HPk.out _))
  iterate 10 go_step
  refine wpList_load_row rfl 39 (.tmp 3) rfl w.heap.size rfl 39 (opCells o).toArray (0,0) _ HX.out Tryz.underlying39 rfl (by rw [infoOp]; rfl) ?_
  go_wp2_with fail
  have HB1:Hid (Below w.heap.size w (W0.drewN nq)):=below_drewN HB0.out nq
  refine (onLine_tick wb A ps K p n o _ (HH.out.below HB1.out) HP.out (by simpa using d4) HA.out hn).mono ?_
  rintro e w1 ⟨rfl,h1⟩
  have HK:=hide ((Nx.pre HB1.out h1).le (show (n + 128) ≤ n + 128 by omega))
  clear h1
  go_wp2
  go_ret
  exact ⟨rfl,ps,Nat.le_succ _,HK.out⟩
theorem onLine_busy (wb:Nat) (A:Nat → Nat) (ps:List PA) (i:Nat) (p:PA) (n:Nat) (o:LOp) (w:World) (h:WAt w A wb ps n) (hp:ps[i]? = some p) (hk:o.kind = 5) :
  Calls Tryz.prog 19 #[.pointer (some ⟨wb,0,none⟩),.pointer (some ⟨p.pb,0,none⟩),.agg (opCells o).toArray] w fun e w'=>e = .returned (.bool true) ∧ Nx A wb ps n w w':=by
 have d2:(o.kind == 2) = false:=by simp [hk]
 have d11:(o.kind == 11) = false:=by simp [hk]
 have d3:(o.kind == 3) = false:=by simp [hk]
 have d4:(o.kind == 4) = false:=by simp [hk]
 have d5:(o.kind == 5) = true:=by simp [hk]
 have HH:=hide h
 have HP:=hide hp
 clear h hp hk
 unfold opCells
 go_enter Tryz.func19,Tryz.ntmps19
 go_wp2_with fail
 obtain ⟨x0,hb0⟩:=box_one w (.cells (opCells o).toArray 39)
 unfold opCells at x0 hb0
 generalize w.alloc _ = W0 at *
 have HB0:=hide hb0
 have X0:OpAt W0 w.heap.size o:=x0
 have lg:=lt_of_block X0
 have o2:W0.cell? ⟨w.heap.size,2,none⟩ = some (.int .i64 o.a):=X0.cell 2
 have o7:W0.cell? ⟨w.heap.size,7,none⟩ = some (.bool o.f):=X0.cell 7
 obtain ⟨x,F,G,L⟩:=(HH.out.below hb0).lend HP.out
 have c0:W0.cell? ⟨p.pb,0,none⟩ = some (.pointer (some ⟨p.xb,0,none⟩)):=(cells_at L.pr).1 0
 have ag:A w.heap.size = 0:=HH.out.free (Nat.le_refl _)
 have HNF:Hid (¬ F w.heap.size):=fun k=>L.fa _ k ag
 have HNG:Hid (¬ G w.heap.size):=fun k=>L.ga _ k ag
 have hpl:=L.lt
 have HL:=hide L
 clear hb0 x0 X0 L ag
 refine region_only (fun a W=>(∃ v7 v8 v9 v10 v11 v14 v15 v16,Tol wb w.heap.size p v7 v8 v9 v10 v11 (.int .i64 (busyE o.a)) v14 v15 v16 a) ∧ LineAt W (Plus F W0) p.xb (busyL x o.a o.f) ∧ Fr F W0 W) ?_ ?_
 ·go_region_held3 (fun W=>W.cell? ⟨p.pb,0,none⟩ = some (.pointer (some ⟨p.xb,0,none⟩)) ∧ W.cell? ⟨w.heap.size,2,none⟩ = some (.int .i64 o.a) ∧ W.cell? ⟨w.heap.size,7,none⟩ = some (.bool o.f)) ((first | exact ⟨c0,o2,o7⟩ | exact ⟨(World.cell?_of_block (hf4.block _ hpl HL.out.fp)).trans c0,(World.cell?_of_block (hf4.block _ lg HNF.out)).trans o2,(World.cell?_of_block (hf4.block _ lg HNF.out)).trans o7⟩))
   ((go_at_call 35; refine (busy_l F p.xb x o.a o.f _ (HL.out.l.below (Below.drew (Below.refl _ _)))).mono ?_; rintro e w4 ⟨rfl,h4,hf4⟩))
  all_goals exact ⟨⟨_,_,_,_,_,_,_,_,rfl,rfl⟩,h4,Fr.mk hf4.os hf4.tape hf4.output hf4.size hf4.block⟩
 rintro a1 W1 ⟨⟨v7,v8,v9,v10,v11,v14,v15,v16,htk⟩,h1,f1⟩
 obtain ⟨u,rfl⟩:=htk.use
 obtain ⟨d1,p1⟩:=HL.out.doc f1
 have e1:W1.cell? ⟨p.pb,1,none⟩ = some (.pointer (some ⟨p.yb,0,none⟩)):=(cells_at p1).1 1
 have hpl1:=lt_of_block p1
 have lg1:=Nat.lt_of_lt_of_le lg f1.size
 have o21:=(World.cell?_of_block (f1.block _ lg HNF.out)).trans o2
 have o71:=(World.cell?_of_block (f1.block _ lg HNF.out)).trans o7
 have H1:=hide h1
 have F1:=hide f1
 have D1:=hide d1
 clear htk h1 f1 d1 p1 c0 o2 o7
 go_wp2_with fail
 refine region_only (fun a W=>(∃ v7 v8 v9 v10 v11 v15 v16,Tol wb w.heap.size p v7 v8 v9 v10 v11 (.int .i64 (busyE o.a)) (.int .i64 (busyE o.a)) v15 v16 a) ∧ DocAt W (Plus G W1) p.yb (busyL x o.a o.f) ∧ Fr G W1 W) ?_ ?_
 ·go_region_held3 (fun W=>W.cell? ⟨p.pb,1,none⟩ = some (.pointer (some ⟨p.yb,0,none⟩)) ∧ W.cell? ⟨w.heap.size,2,none⟩ = some (.int .i64 o.a) ∧ W.cell? ⟨w.heap.size,7,none⟩ = some (.bool o.f)) ((first | exact ⟨e1,o21,o71⟩ | exact ⟨(World.cell?_of_block (hf4.block _ hpl1 HL.out.gp)).trans e1,(World.cell?_of_block (hf4.block _ lg1 HNG.out)).trans o21,(World.cell?_of_block (hf4.block _ lg1 HNG.out)).trans o71⟩))
   ((go_at_call 36; refine (rbusy_line G p.yb x o.a o.f _ (D1.out.below (Below.drew (Below.refl _ _)))).mono ?_; rintro e w4 ⟨rfl,h4,hf4⟩))
  all_goals exact ⟨⟨_,_,_,_,_,_,_,rfl,rfl⟩,h4,Fr.mk hf4.os hf4.tape hf4.output hf4.size hf4.block⟩
 rintro a2 W2 ⟨⟨v7,v8,v9,v10,v11,v15,v16,htk⟩,h2,f2⟩
 obtain ⟨u,rfl⟩:=htk.use
 have HK:Hid (Nx A wb ps n w W2):=Nx.pre HB0.out (HL.out.same F1.out H1.out f2 h2 (Nat.le_refl n) (HL.out.fit.busy o.a o.f))
 clear htk h2 f2 e1 o21 o71
 generalize hE:busyE o.a = E
 go_wp2
 go_ret
 exact ⟨by simp,HK.out⟩
theorem step_busy (wb:Nat) (A:Nat → Nat) (ps:List PA) (n:Nat) (o:LOp) (w:World) (h:WAt w A wb ps n) (hk:o.kind = 5) (hl:ps.length ≤ 1000000000) (hln:-9223372036854775808 ≤ o.line ∧ o.line ≤ 9223372036854775807) :
  Calls Tryz.prog 12 #[.pointer (some ⟨wb,0,none⟩),.agg (opCells o).toArray] w fun e w'=>e = .returned (.bool true) ∧ ∃ qs,qs.length ≤ ps.length + 1 ∧ Nx A wb qs (n + 128) w w':=by
 have d1:(o.kind == 1) = false:=by simp [hk]
 have d2:(o.kind == 2) = false:=by simp [hk]
 have d11:(o.kind == 11) = false:=by simp [hk]
 have d3:(o.kind == 3) = false:=by simp [hk]
 have d4:(o.kind == 4) = false:=by simp [hk]
 have d5:(o.kind == 5) = true:=by simp [hk]
 obtain ⟨vl,vk,xs,ks,hw,hf,hks⟩:=h
 obtain ⟨al,cl,rfl⟩:=hw.rp.form
 have hlt:=hw.lt
 have hne:wb ≠ w.heap.size:=by omega
 have c0:w.cell? ⟨wb,0,none⟩ = some (.slice al ps.length cl):=(cells_at hw.blk).1 0
 have HH:Hid (WAt w A wb ps n):=⟨_,vk,xs,ks,hw,hf,hks⟩
 have HWC:=hide hw
 have HLN:=hide hln
 clear hw hf hks hk hln
 rcases Nat.eq_zero_or_pos ps.length with z | z
 ·have i0:((ps.length:Int) == 0) = true:=by simp [z]
  clear z
  unfold opCells
  go_enter Tryz.func12,Tryz.ntmps12
  go_wp2
  go_ret
  exact ⟨rfl,ps,Nat.le_succ _,(HH.out.le (Nat.le_add_right n 128)).nx (Below.allocN (Below.refl _ _) _)⟩
 ·have i0:((ps.length:Int) == 0) = false:=by simp; intro e; rw [e] at z; simp at z
  obtain ⟨K,hK,hKl⟩:∃ K:Nat,pickL o.line ps.length = (K:Int) ∧ K < ps.length:=by
   obtain ⟨a,b⟩:=pickL_lt o.line ps.length (by omega)
   exact ⟨(pickL o.line ps.length).toNat,(Int.toNat_of_nonneg a).symm,by omega⟩
  obtain ⟨p,hp⟩:∃ p,ps[K]? = some p:=⟨_,List.getElem?_eq_getElem hKl⟩
  have HPk:Hid (∀ W,Calls Tryz.prog 18 #[.int .i64 o.line,.int .i64 ps.length] W fun e w'=>e = .returned (.int .i64 (K:Int)) ∧ w' = W):=fun W=>by
   have:=pickL_any o.line ps.length W HLN.out.1 HLN.out.2 (by omega) (by omega)
   rw [hK] at this
   exact this
  obtain ⟨lb,cap',e,lbl,r0⟩:=HWC.out.rp.cell hp
  simp only [Value.slice.injEq,true_and] at e
  obtain ⟨rfl,rfl⟩:=e
  simp only [pSl] at r0
  have HP:=hide hp
  have hneb:lb ≠ w.heap.size:=by omega
  clear hp hK
  unfold opCells
  go_enter Tryz.func12,Tryz.ntmps12
  go_wp2_with fail
  obtain ⟨x0,hb0⟩:=box_one w (.cells (opCells o).toArray 39)
  unfold opCells at x0 hb0
  generalize w.alloc _ = W0 at *
  have X0:OpAt W0 w.heap.size o:=x0
  have HB0:=hide hb0
  have c0:W0.cell? ⟨wb,0,none⟩ = some (.slice (some ⟨lb,0,none⟩) ps.length cl):=(hb0.cell (p:=⟨wb,0,none⟩) hlt).trans c0
  have r0:W0.cell? ⟨lb,K,none⟩ = some (.pointer (some ⟨p.pb,0,none⟩)):=(hb0.cell (p:=⟨lb,K,none⟩) lbl).trans r0
  have o1:W0.cell? ⟨w.heap.size,1,none⟩ = some (.int .i64 o.line):=X0.cell 1
  have HX:=hide x0
  have hKi:(K:Int) < (ps.length:Int):=by omega
  clear x0 hb0 X0 z
  go_quiet (exact Calls.quiet_of_same (HPk.out _))
  iterate 10 go_step
  refine wpList_load_row rfl 39 (.tmp 3) rfl w.heap.size rfl 39 (opCells o).toArray (0,0) _ HX.out Tryz.underlying39 rfl (by rw [infoOp]; rfl) ?_
  go_wp2_with fail
  have HB1:Hid (Below w.heap.size w (W0.drewN nq)):=below_drewN HB0.out nq
  refine (onLine_busy wb A ps K p n o _ (HH.out.below HB1.out) HP.out (by simpa using d5)).mono ?_
  rintro e w1 ⟨rfl,h1⟩
  have HK:=hide ((Nx.pre HB1.out h1).le (show n ≤ n + 128 by omega))
  clear h1
  go_wp2
  go_ret
  exact ⟨rfl,ps,Nat.le_succ _,HK.out⟩
theorem onLine_fault (wb:Nat) (A:Nat → Nat) (ps:List PA) (i:Nat) (p:PA) (n:Nat) (o:LOp) (w:World) (h:WAt w A wb ps n) (hp:ps[i]? = some p) (hk:o.kind = 6) :
  Calls Tryz.prog 19 #[.pointer (some ⟨wb,0,none⟩),.pointer (some ⟨p.pb,0,none⟩),.agg (opCells o).toArray] w fun e w'=>e = .returned (.bool true) ∧ Nx A wb ps n w w':=by
 have d2:(o.kind == 2) = false:=by simp [hk]
 have d11:(o.kind == 11) = false:=by simp [hk]
 have d3:(o.kind == 3) = false:=by simp [hk]
 have d4:(o.kind == 4) = false:=by simp [hk]
 have d5:(o.kind == 5) = false:=by simp [hk]
 have HH:=hide h
 have HP:=hide hp
 clear h hp hk
 unfold opCells
 go_enter Tryz.func19,Tryz.ntmps19
 go_wp2_with fail
 obtain ⟨x0,hb0⟩:=box_one w (.cells (opCells o).toArray 39)
 unfold opCells at x0 hb0
 generalize w.alloc _ = W0 at *
 have HB0:=hide hb0
 have X0:OpAt W0 w.heap.size o:=x0
 have lg:=lt_of_block X0
 have o2:W0.cell? ⟨w.heap.size,2,none⟩ = some (.int .i64 o.a):=X0.cell 2
 have o3:W0.cell? ⟨w.heap.size,3,none⟩ = some (.int .i64 o.b):=X0.cell 3
 have o4:W0.cell? ⟨w.heap.size,4,none⟩ = some (.int .i64 o.c):=X0.cell 4
 obtain ⟨x,F,G,L⟩:=(HH.out.below hb0).lend HP.out
 have c0:W0.cell? ⟨p.pb,0,none⟩ = some (.pointer (some ⟨p.xb,0,none⟩)):=(cells_at L.pr).1 0
 have ag:A w.heap.size = 0:=HH.out.free (Nat.le_refl _)
 have HNF:Hid (¬ F w.heap.size):=fun k=>L.fa _ k ag
 have HNG:Hid (¬ G w.heap.size):=fun k=>L.ga _ k ag
 have hpl:=L.lt
 have HL:=hide L
 clear hb0 x0 X0 L ag
 refine region_only (fun a W=>(∃ v7 v8 v9 v10 v11 v13 v14 v16,Tol wb w.heap.size p v7 v8 v9 v10 v11 v13 v14 (.int .i64 (faultE x o.a o.b o.c)) v16 a) ∧ LineAt W (Plus F W0) p.xb (faultL x o.a o.b o.c) ∧ Fr F W0 W) ?_ ?_
 ·go_region_held3 (fun W=>W.cell? ⟨p.pb,0,none⟩ = some (.pointer (some ⟨p.xb,0,none⟩)) ∧ W.cell? ⟨w.heap.size,2,none⟩ = some (.int .i64 o.a) ∧ W.cell? ⟨w.heap.size,3,none⟩ = some (.int .i64 o.b) ∧ W.cell? ⟨w.heap.size,4,none⟩ = some (.int .i64 o.c)) ((first | exact ⟨c0,o2,o3,o4⟩ | exact ⟨(World.cell?_of_block (hf4.block _ hpl HL.out.fp)).trans c0,(World.cell?_of_block (hf4.block _ lg HNF.out)).trans o2,(World.cell?_of_block (hf4.block _ lg HNF.out)).trans o3,(World.cell?_of_block (hf4.block _ lg HNF.out)).trans o4⟩))
   ((go_at_call 37; refine (fault_l F p.xb x o.a o.b o.c _ (HL.out.l.below (Below.drew (Below.refl _ _))) HL.out.fit.g).mono ?_; rintro e w4 ⟨rfl,h4,hf4⟩))
  all_goals exact ⟨⟨_,_,_,_,_,_,_,_,rfl,rfl⟩,h4,Fr.mk hf4.os hf4.tape hf4.output hf4.size hf4.block⟩
 rintro a1 W1 ⟨⟨v7,v8,v9,v10,v11,v13,v14,v16,htk⟩,h1,f1⟩
 obtain ⟨u,rfl⟩:=htk.use
 obtain ⟨d1,p1⟩:=HL.out.doc f1
 have e1:W1.cell? ⟨p.pb,1,none⟩ = some (.pointer (some ⟨p.yb,0,none⟩)):=(cells_at p1).1 1
 have hpl1:=lt_of_block p1
 have lg1:=Nat.lt_of_lt_of_le lg f1.size
 have o21:=(World.cell?_of_block (f1.block _ lg HNF.out)).trans o2
 have o31:=(World.cell?_of_block (f1.block _ lg HNF.out)).trans o3
 have o41:=(World.cell?_of_block (f1.block _ lg HNF.out)).trans o4
 have H1:=hide h1
 have F1:=hide f1
 have D1:=hide d1
 clear htk h1 f1 d1 p1 c0 o2 o3 o4
 go_wp2_with fail
 refine region_only (fun a W=>(∃ v7 v8 v9 v10 v11 v13 v14,Tol wb w.heap.size p v7 v8 v9 v10 v11 v13 v14 (.int .i64 (faultE x o.a o.b o.c)) (.int .i64 (faultE x o.a o.b o.c)) a) ∧ DocAt W (Plus G W1) p.yb (faultL x o.a o.b o.c) ∧ Fr G W1 W) ?_ ?_
 ·go_region_held3 (fun W=>W.cell? ⟨p.pb,1,none⟩ = some (.pointer (some ⟨p.yb,0,none⟩)) ∧ W.cell? ⟨w.heap.size,2,none⟩ = some (.int .i64 o.a) ∧ W.cell? ⟨w.heap.size,3,none⟩ = some (.int .i64 o.b) ∧ W.cell? ⟨w.heap.size,4,none⟩ = some (.int .i64 o.c)) ((first | exact ⟨e1,o21,o31,o41⟩ | exact ⟨(World.cell?_of_block (hf4.block _ hpl1 HL.out.gp)).trans e1,(World.cell?_of_block (hf4.block _ lg1 HNG.out)).trans o21,(World.cell?_of_block (hf4.block _ lg1 HNG.out)).trans o31,(World.cell?_of_block (hf4.block _ lg1 HNG.out)).trans o41⟩))
   ((go_at_call 38; refine (rfault_line G p.yb x o.a o.b o.c _ (D1.out.below (Below.drew (Below.refl _ _))) HL.out.fit.g).mono ?_; rintro e w4 ⟨rfl,h4,hf4⟩))
  all_goals exact ⟨⟨_,_,_,_,_,_,_,rfl,rfl⟩,h4,Fr.mk hf4.os hf4.tape hf4.output hf4.size hf4.block⟩
 rintro a2 W2 ⟨⟨v7,v8,v9,v10,v11,v13,v14,htk⟩,h2,f2⟩
 obtain ⟨u,rfl⟩:=htk.use
 have HK:Hid (Nx A wb ps n w W2):=Nx.pre HB0.out (HL.out.same F1.out H1.out f2 h2 (Nat.le_refl n) (HL.out.fit.fault o.a o.b o.c))
 clear htk h2 f2 e1 o21 o31 o41
 generalize hE:faultE x o.a o.b o.c = E
 go_wp2
 go_ret
 exact ⟨by simp,HK.out⟩
theorem step_fault (wb:Nat) (A:Nat → Nat) (ps:List PA) (n:Nat) (o:LOp) (w:World) (h:WAt w A wb ps n) (hk:o.kind = 6) (hl:ps.length ≤ 1000000000) (hln:-9223372036854775808 ≤ o.line ∧ o.line ≤ 9223372036854775807) :
  Calls Tryz.prog 12 #[.pointer (some ⟨wb,0,none⟩),.agg (opCells o).toArray] w fun e w'=>e = .returned (.bool true) ∧ ∃ qs,qs.length ≤ ps.length + 1 ∧ Nx A wb qs (n + 128) w w':=by
 have d1:(o.kind == 1) = false:=by simp [hk]
 have d2:(o.kind == 2) = false:=by simp [hk]
 have d11:(o.kind == 11) = false:=by simp [hk]
 have d3:(o.kind == 3) = false:=by simp [hk]
 have d4:(o.kind == 4) = false:=by simp [hk]
 have d5:(o.kind == 5) = false:=by simp [hk]
 have d6:(o.kind == 6) = true:=by simp [hk]
 obtain ⟨vl,vk,xs,ks,hw,hf,hks⟩:=h
 obtain ⟨al,cl,rfl⟩:=hw.rp.form
 have hlt:=hw.lt
 have hne:wb ≠ w.heap.size:=by omega
 have c0:w.cell? ⟨wb,0,none⟩ = some (.slice al ps.length cl):=(cells_at hw.blk).1 0
 have HH:Hid (WAt w A wb ps n):=⟨_,vk,xs,ks,hw,hf,hks⟩
 have HWC:=hide hw
 have HLN:=hide hln
 clear hw hf hks hk hln
 rcases Nat.eq_zero_or_pos ps.length with z | z
 ·have i0:((ps.length:Int) == 0) = true:=by simp [z]
  clear z
  unfold opCells
  go_enter Tryz.func12,Tryz.ntmps12
  go_wp2
  go_ret
  exact ⟨rfl,ps,Nat.le_succ _,(HH.out.le (Nat.le_add_right n 128)).nx (Below.allocN (Below.refl _ _) _)⟩
 ·have i0:((ps.length:Int) == 0) = false:=by simp; intro e; rw [e] at z; simp at z
  obtain ⟨K,hK,hKl⟩:∃ K:Nat,pickL o.line ps.length = (K:Int) ∧ K < ps.length:=by
   obtain ⟨a,b⟩:=pickL_lt o.line ps.length (by omega)
   exact ⟨(pickL o.line ps.length).toNat,(Int.toNat_of_nonneg a).symm,by omega⟩
  obtain ⟨p,hp⟩:∃ p,ps[K]? = some p:=⟨_,List.getElem?_eq_getElem hKl⟩
  have HPk:Hid (∀ W,Calls Tryz.prog 18 #[.int .i64 o.line,.int .i64 ps.length] W fun e w'=>e = .returned (.int .i64 (K:Int)) ∧ w' = W):=fun W=>by
   have:=pickL_any o.line ps.length W HLN.out.1 HLN.out.2 (by omega) (by omega)
   rw [hK] at this
   exact this
  obtain ⟨lb,cap',e,lbl,r0⟩:=HWC.out.rp.cell hp
  simp only [Value.slice.injEq,true_and] at e
  obtain ⟨rfl,rfl⟩:=e
  simp only [pSl] at r0
  have HP:=hide hp
  have hneb:lb ≠ w.heap.size:=by omega
  clear hp hK
  unfold opCells
  go_enter Tryz.func12,Tryz.ntmps12
  go_wp2_with fail
  obtain ⟨x0,hb0⟩:=box_one w (.cells (opCells o).toArray 39)
  unfold opCells at x0 hb0
  generalize w.alloc _ = W0 at *
  have X0:OpAt W0 w.heap.size o:=x0
  have HB0:=hide hb0
  have c0:W0.cell? ⟨wb,0,none⟩ = some (.slice (some ⟨lb,0,none⟩) ps.length cl):=(hb0.cell (p:=⟨wb,0,none⟩) hlt).trans c0
  have r0:W0.cell? ⟨lb,K,none⟩ = some (.pointer (some ⟨p.pb,0,none⟩)):=(hb0.cell (p:=⟨lb,K,none⟩) lbl).trans r0
  have o1:W0.cell? ⟨w.heap.size,1,none⟩ = some (.int .i64 o.line):=X0.cell 1
  have HX:=hide x0
  have hKi:(K:Int) < (ps.length:Int):=by omega
  clear x0 hb0 X0 z
  go_quiet (exact Calls.quiet_of_same (HPk.out _))
  iterate 10 go_step
  refine wpList_load_row rfl 39 (.tmp 3) rfl w.heap.size rfl 39 (opCells o).toArray (0,0) _ HX.out Tryz.underlying39 rfl (by rw [infoOp]; rfl) ?_
  go_wp2_with fail
  have HB1:Hid (Below w.heap.size w (W0.drewN nq)):=below_drewN HB0.out nq
  refine (onLine_fault wb A ps K p n o _ (HH.out.below HB1.out) HP.out (by simpa using d6)).mono ?_
  rintro e w1 ⟨rfl,h1⟩
  have HK:=hide ((Nx.pre HB1.out h1).le (show n ≤ n + 128 by omega))
  clear h1
  go_wp2
  go_ret
  exact ⟨rfl,ps,Nat.le_succ _,HK.out⟩
theorem step_sums (wb:Nat) (A:Nat → Nat) (ps:List PA) (n:Nat) (o:LOp) (w:World) (h:WAt w A wb ps n) (hk:o.kind = 7) (hs:o.s.length ≤ 1048576) :
  Calls Tryz.prog 12 #[.pointer (some ⟨wb,0,none⟩),.agg (opCells o).toArray] w fun e w'=>e = .returned (.bool true) ∧ ∃ qs,qs.length ≤ ps.length + 1 ∧ Nx A wb qs (n + 128) w w':=by
 have d1:(o.kind == 1) = false:=by simp [hk]
 have d2:(o.kind == 2) = false:=by simp [hk]
 have d11:(o.kind == 11) = false:=by simp [hk]
 have d3:(o.kind == 3) = false:=by simp [hk]
 have d4:(o.kind == 4) = false:=by simp [hk]
 have d5:(o.kind == 5) = false:=by simp [hk]
 have d6:(o.kind == 6) = false:=by simp [hk]
 have d7:(o.kind == 7) = true:=by simp [hk]
 have HS:=hide hs
 clear hs
 have HH:=hide h
 clear h hk
 unfold opCells
 go_enter Tryz.func12,Tryz.ntmps12
 go_wp2_with fail
 obtain ⟨x0,hb0⟩:=box_one w (.cells (opCells o).toArray 39)
 unfold opCells at x0 hb0
 generalize w.alloc _ = W0 at *
 have X0:OpAt W0 w.heap.size o:=x0
 have HB0:=hide hb0
 have o2:W0.cell? ⟨w.heap.size,2,none⟩ = some (.int .i64 o.a):=X0.cell 2
 have lg:=lt_of_block X0
 clear x0 hb0
 clear o2 X0 lg
 refine (sums_walk ⟨o.s.toArray⟩ o.a _ (by simpa [ByteArray.size] using HS.out)).mono ?_
 rintro e w1 ⟨rfl,hb1⟩
 have HB1:=hide (below_step HB0.out hb1)
 clear hb1
 go_wp2
 go_ret
 exact ⟨rfl,ps,Nat.le_succ _,(HH.out.le (Nat.le_add_right n 128)).nx HB1.out⟩
theorem step_short (wb:Nat) (A:Nat → Nat) (ps:List PA) (n:Nat) (o:LOp) (w:World) (h:WAt w A wb ps n) (hk:o.kind = 8) :
  Calls Tryz.prog 12 #[.pointer (some ⟨wb,0,none⟩),.agg (opCells o).toArray] w fun e w'=>e = .returned (.bool true) ∧ ∃ qs,qs.length ≤ ps.length + 1 ∧ Nx A wb qs (n + 128) w w':=by
 have d1:(o.kind == 1) = false:=by simp [hk]
 have d2:(o.kind == 2) = false:=by simp [hk]
 have d11:(o.kind == 11) = false:=by simp [hk]
 have d3:(o.kind == 3) = false:=by simp [hk]
 have d4:(o.kind == 4) = false:=by simp [hk]
 have d5:(o.kind == 5) = false:=by simp [hk]
 have d6:(o.kind == 6) = false:=by simp [hk]
 have d7:(o.kind == 7) = false:=by simp [hk]
 have d8:(o.kind == 8) = true:=by simp [hk]
 have HH:=hide h
 clear h hk
 unfold opCells
 go_enter Tryz.func12,Tryz.ntmps12
 go_wp2_with fail
 obtain ⟨x0,hb0⟩:=box_one w (.cells (opCells o).toArray 39)
 unfold opCells at x0 hb0
 generalize w.alloc _ = W0 at *
 have X0:OpAt W0 w.heap.size o:=x0
 have HB0:=hide hb0
 have o2:W0.cell? ⟨w.heap.size,2,none⟩ = some (.int .i64 o.a):=X0.cell 2
 have lg:=lt_of_block X0
 clear x0 hb0
 refine (short_any o.a _).mono ?_
 rintro e w1 ⟨rfl,hb1⟩
 have HB2:=hide (below_step HB0.out hb1)
 have o21:w1.cell? ⟨w.heap.size,2,none⟩ = some (.int .i64 o.a):=(hb1.cell (p:=⟨w.heap.size,2,none⟩) lg).trans o2
 clear hb1 o2 X0
 go_wp2_with fail
 refine (refShort_any o.a _).mono ?_
 rintro e w2 ⟨rfl,hb2⟩
 have HB1:=hide (below_step HB2.out hb2)
 clear hb2 o21
 generalize (⟨(shortS o.a).toArray⟩:ByteArray) = s
 generalize shortE o.a = e
 go_wp2
 go_ret
 exact ⟨by simp,ps,Nat.le_succ _,(HH.out.le (Nat.le_add_right n 128)).nx HB1.out⟩
end Go.Proofs.YtlbpjcphhocdkaaGreat
