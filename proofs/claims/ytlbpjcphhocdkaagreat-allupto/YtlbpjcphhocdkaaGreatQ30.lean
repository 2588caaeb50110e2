/- A list of blocks, copied behind an empty one. The document's station takes a block. The document's station takes a block. The document's station takes a block. The document's station takes a block. The document's .. -/
import Derived.Test.YtlbpjcphhocdkaaGreatQ19
import Derived.Deep.Upon
import Derived.Test.YtlbpjcphhocdkaaGreatQ20
import Derived.Test.YtlbpjcphhocdkaaGreatQ29
set_option maxRecDepth 1000000
set_option maxHeartbeats 16000000
namespace Go.Proofs.YtlbpjcphhocdkaaGreat
open Go.RowKit Go.Proofs.YtlbpjcphhocdkaaGreat.Mod
theorem flat_one {w:World} {F:Nat → Prop} {l:List Bk} (vs:List (Value × List ByteArray)) (hl:vs.length = l.length) (hp:∀ k (hk:k < l.length),∃ x,vs[k]? = some x ∧ w.ownsRow 0 9 1 x.1 x.2.length (x.2.map Value.string) ∧ (∀ g,x.1.ownBlock = some g → F g) ∧ datas x.2 = l[k].parts):∀ u ∈ ((vs.zip l).map bCells).flatten,u.oneCell' = true:=by
 intro u hu
 obtain ⟨c,hc,hu⟩:=List.mem_flatten.1 hu
 obtain ⟨⟨x,b⟩,hxb,rfl⟩:=List.mem_map.1 hc
 obtain ⟨k,hk,e⟩:=List.mem_iff_getElem.1 hxb
 have hk':k < l.length:=by simp [hl] at hk; exact hk
 obtain ⟨y,h1,h2,_⟩:=hp k hk'
 have h3:(vs.zip l)[k]? = some (x,b):=by rw [List.getElem?_eq_getElem hk,e]
 rw [zip_get h1 (List.getElem?_eq_getElem hk')] at h3
 simp only [Option.some.injEq,Prod.mk.injEq] at h3
 obtain ⟨rfl,rfl⟩:=h3
 exact bCells_one y _ (row_slice h2) u hu
section
variable {ops:Array Oper} {rest:List Oper} {o:Oper} {a:Act} {Q:Exit → Act → World → Prop}
theorem app_all (W:World) (hgd:o.guard = none) (sl y:Operand)
  (ho:o.op = .call { callee:=.builtin .append,args:=#[sl,y],argTypes:=#[76,76] })
  {F:Nat → Prop} (v:Value) (l:List Bk) (hs:a.eval sl = .slice none 0 0) (hx:a.eval y = v) (hG:GAt W F v l) (hF:∀ g,F g → g < W.heap.size) (hlen:l.length ≤ 1000000000000)
  (h:∀ v' vs W',GOwn W' (Plus F W) v' vs l → Below W.heap.size W W' → (∀ g,v'.ownBlock = some g → W.heap.size ≤ g) → wpList Tryz.prog ops Q rest (a.put o.dst v') W') :
  wpList Tryz.prog ops Q (o::rest) a W:=by
 obtain ⟨i0,hi,hz0,hz1,hz2⟩:=info_parts Tryz.infoBlk
 obtain ⟨vs,hl,hr,hf,hp⟩:=hG.row
 by_cases hn:l.length = 0
 ·have hl0:l = []:=List.eq_nil_of_length_eq_zero hn
  subst hl0
  obtain ⟨a0,cap0,rfl⟩:=hG.form
  refine wpList_plain hgd fun _ hK=>?_
  unfold Oper.wp execOp
  simp only [ho,resolve,invoke,builtin,Sem.run_bind,Sem.run_pure,Result.andThen_ok,List.map_toArray,List.map_cons,List.map_nil,hs,hx]
  rw [run_append_nothing W 76 76 o.type 57 i0 Tryz.underlying76 hi none 0 0 (Nat.le_refl _)]
  ·exact hK _ _ (h _ [] W (GOwn.nil _ _) (Below.refl _ _) (fun g hg=>by cases hg))
  ·cases a0 with
   | none=>exact Src.ofNil W Tryz.underlying76 _
   | some q=>exact Src.ofSlice W Tryz.underlying76 q 0 _ [] (by simp) (by simp) (by simp)
 ·obtain ⟨g,cap,e,_⟩:∃ g cap,v = .slice (some ⟨g,0,none⟩) l.length cap ∧ True:=by
   rcases hr.2 with ⟨_,h0⟩ | ⟨g,cap,cur,rfl,_⟩
   ·exact absurd h0 hn
   ·exact ⟨g,cap,rfl,trivial⟩
  subst e
  refine wpList_append_foot W hgd sl y 76 ho W.heap.size 57 i0 _ 4 48 Tryz.underlying76 hi hz0 hz1 hz2 rfl (by decide) (.slice none 0 0) 0 [] hs (World.ownsRow_nil W W.heap.size _ _) ⟨g,0,none⟩ l.length cap _ hx hr.1 (World.ownsRow.cells hr rfl) (flat_one vs hl hp) (by unfold maxLen; omega) (by omega) (Nat.le_refl _) ?_
  intro v' W' ho' hg hf'
  rw [Nat.zero_add,List.nil_append] at ho'
  have hnew:∀ g,v'.ownBlock = some g → W.heap.size ≤ g:=fun g hg=>(World.ownsRow.lt ho' g hg).1
  refine h v' vs W' ⟨hl,⟨ho'.1,ho'.2.imp id fun ⟨g,cap,cur,a,_,b⟩=>⟨g,cap,cur,a,Nat.zero_le _,b⟩⟩,fun g hg=>Or.inr (hnew g hg),fun k hk=>?_⟩ ((Below.refl _ _).grown hg (Nat.le_refl _) (fun k hk=>by cases hk)) hnew
  obtain ⟨x,a1,a2,a3,a4⟩:=hp k hk
  refine ⟨x,a1,World.ownsRow.kept a2 hg ?_,fun g z=>Or.inl (a3 g z),a4,?_⟩
  ·cases e:x.1.ownBlock with
   | none=>exact Or.inl rfl
   | some q=>exact Or.inr (fun z=>by cases z)
  ·cases e:x.1.ownBlock with
   | none=>exact Or.inl rfl
   | some q =>
    right
    intro z
    have:=hnew q z.symm
    have:=hF q (a3 q e)
    omega
end
end Go.Proofs.YtlbpjcphhocdkaaGreat
namespace Go.Proofs.YtlbpjcphhocdkaaGreat
open Go.RowKit Go.Proofs.YtlbpjcphhocdkaaGreat.Mod Go.Proofs.YtlbpjcphhocdkaaGreat.Pst
theorem k_at {K:Act → World → Prop} {a:Act} {W:World} (R:World → Prop) (h:R W) (k:∀ W',R W' → K a W'):K a W:=k W h
/-- Behind the boxes. -/
structure RTx (w W:World) (F:Nat → Prop) (A:RAd) (c:Cfg) (now:Nat) (s:RS) (on:List UInt8) (x0 x1 x2 x3:Value):Prop where
 at':RAt W F A c now s on
 rb:RB A w W
 blk:BlkAt W w.heap.size x0 x1 x2 x3
 ev:Ev0 W (w.heap.size + 1)
theorem RTx.mk' {w:World} {F:Nat → Prop} {A:RAd} {c:Cfg} {now:Nat} {s:RS} {on:List UInt8} {x0 x1 x2 x3:Value} (h:RAt w F A c now s on) :
  RTx w ((w.alloc (.cells #[x0,x1,x2,x3] 57)).alloc (.cells #[.int .i64 0,.int .i64 0,.int .i64 0,.string ⟨#[]⟩,.string ⟨#[]⟩,.bool false] 62)) F A c now s on x0 x1 x2 x3:=by
 have hb:Below w.heap.size w ((w.alloc (.cells #[x0,x1,x2,x3] 57)).alloc (.cells #[.int .i64 0,.int .i64 0,.int .i64 0,.string ⟨#[]⟩,.string ⟨#[]⟩,.bool false] 62)):=Below.allocN (Below.allocN (Below.refl _ _) _) _
 refine ⟨h.below hb,(RB.refl A w).below h.lob h.lsb hb,?_,?_⟩
 ·exact (Below.heap_alloc _ _ _ (by simp)).trans (heap_alloc_new w _)
 ·have:=heap_alloc_new (w.alloc (.cells #[x0,x1,x2,x3] 57)) (.cells #[.int .i64 0,.int .i64 0,.int .i64 0,.string ⟨#[]⟩,.string ⟨#[]⟩,.bool false] 62)
  rw [show (w.alloc (.cells #[x0,x1,x2,x3] 57)).heap.size = w.heap.size + 1 by simp] at this
  exact this
theorem RTx.step {w W W':World} {F G:Nat → Prop} {A:RAd} {c:Cfg} {now:Nat} {s s':RS} {on on':List UInt8} {x0 x1 x2 x3:Value} (h:RTx w W F A c now s on x0 x1 x2 x3) (k:RAt W' G A c now s' on') (b:RB A W W') (h1:A.sb < w.heap.size) (h2:A.ob < w.heap.size):RTx w W' G A c now s' on' x0 x1 x2 x3 :=
 ⟨k,h.rb.trans b,(b.block _ (lt_of_block h.blk) (by omega) (by omega)).trans h.blk,Ev0.rb h.ev b (by omega) (by omega)⟩
theorem RTx.below {w W W':World} {F:Nat → Prop} {A:RAd} {c:Cfg} {now:Nat} {s:RS} {on:List UInt8} {x0 x1 x2 x3:Value} (h:RTx w W F A c now s on x0 x1 x2 x3) (b:Below W.heap.size W W'):RTx w W' F A c now s on x0 x1 x2 x3 :=
 ⟨h.at'.below b,h.rb.below h.at'.lob h.at'.lsb b,(b.block _ (lt_of_block h.blk)).trans h.blk,EvAt.below h.ev b⟩
theorem joined_size {l:List Bk} {b:Bk} (h1:(joinedM l).head.length ≤ 8) (h2:(joinedM l).text.length ≤ 200) (hb:Blk.berr b.head b.parts b.clear = 0):(joinedM (l ++ [b])).head.length ≤ 1000 ∧ (joinedM (l ++ [b])).text.length ≤ 1000:=by
 obtain ⟨a1,_,a3,a4⟩:=Blk.berr_ok hb
 have a5:=Blk.headOk_le a1
 have a6:=Blk.parts_le a4
 have hf:∀ (ps:List (List UInt8)) (_:∀ i,(ps.getD i []).length ≤ 32),ps.flatten.length ≤ ps.length * 32:=by
  intro ps
  induction ps with
  | nil=>intro _; simp
  | cons p ps ih =>
   intro h
   have h0:=h 0
   have h1:=ih (fun i=>by have:=h (i + 1); simpa using this)
   simp only [List.flatten_cons,List.length_append,List.length_cons]
   simp at h0
   omega
 have a7:=hf b.parts a6
 have e1:=(joined_app l [b]).1
 have e2:=(joined_app l [b]).2
 rw [e1,e2]
 simp only [List.length_append]
 have e3:(joinedM [b]).head = b.head:=by simp [joinedM]
 have e4:(joinedM [b]).text = b.parts.flatten:=by simp [joinedM]
 rw [e3,e4]
 have:b.parts.length * 32 ≤ 4 * 32:=Nat.mul_le_mul_right _ a3
 omega
theorem far_new {w1:World} {v x:Value} (h:∀ g,v.ownBlock = some g → w1.heap.size ≤ g) (k:∀ g,x.ownBlock = some g → g < w1.heap.size):x.ownBlock = none ∨ x.ownBlock ≠ v.ownBlock:=by
 cases e:x.ownBlock with
 | none=>exact Or.inl rfl
 | some g =>
  right
  intro z
  have:=h g z.symm
  have:=k g e
  omega
theorem takes_head (F:Nat → Prop) (A:RAd) (c:Cfg) (now:Nat) (s:RS) (b:Bk) (v:Value) (lb:List ByteArray) (w:World) (h:RAt w F A c now s []) (hF:∀ g,F g → g < w.heap.size) (hr:w.ownsRow 0 9 1 v lb.length (lb.map Value.string)) (hv:∀ g,v.ownBlock = some g → F g) (hd:datas lb = b.parts) (he:Blk.berr b.head b.parts b.clear = 0) (hb:RBd c now A.i s) (hm:s.mode = 3) (hc1:8 < (joinedM (s.got ++ [b])).head.length) :
  Calls Tryz.prog 149 #[.pointer (some ⟨A.yb,0,none⟩),.int .i64 A.i,.agg #[.string ⟨b.head.toArray⟩,v,.bool b.clear,.bool b.last]] w fun e w'=>RTells w F A c now ((rtakes c now A.i s b).1,(rtakes c now A.i s b).2.2) (rtakes c now A.i s b).2.1 e w':=by
 have hi:=h.ok.i
 have lsb:=h.lsb
 have lyb:=h.lyb
 have lsl:=h.lsl
 have lob:=h.lob
 have HBD:=hide hb
 have hcn:=hb.count
 have hgt:=hb.got
 have HSZ:=hide (joined_size (hb.gsz hm).1 (hb.gsz hm).2 he)
 obtain ⟨a0,n0,cap0,rfl⟩:=row_slice hr
 have HR:=hide hr
 have HV:=hide hv
 have HD:=hide hd
 have H:=hide h
 have HF:=hide hF
 have X:=hide (RTx.mk' (x0:=.string ⟨b.head.toArray⟩) (x1:=.slice a0 n0 cap0) (x2:=.bool b.clear) (x3:=.bool b.last) h)
 have HC1:=hide hc1
 clear hc1
 clear h hF hb hr hv hd he hm
 go_enter Tryz.func149,Tryz.ntmps149
 iterate 8 go_step
 refine k_at (fun W=>RTx w W F A c now s [] (.string ⟨b.head.toArray⟩) (.slice a0 n0 cap0) (.bool b.clear) (.bool b.last)) X.out ?_
 rintro W hX
 have XX:=hide hX
 have d1:=hX.at'.lst
 have d2:=hX.at'.ptr
 have k7:=hX.at'.cfg.2.2.2.2.2.2.2.1
 clear hX X
 go_wp2_with fail
 refine (waits_any F A c now c.lost s [] _ XX.out.at').mono ?_
 rintro e w1 ⟨rfl,h1,b1⟩
 have X1:=hide (XX.out.step h1 b1 lsb lob)
 have hs1:w.heap.size ≤ w1.heap.size:=by have:=X1.out.rb.size; exact this
 obtain ⟨gv,c12,hgv⟩:=h1.got
 obtain ⟨ga,gcap,rfl⟩:=hgv.form
 have HGV:=hide hgv
 have HF1:Hid (∀ g,F g → g < w1.heap.size):=fun g k=>Nat.lt_of_lt_of_le (HF.out g k) hs1
 clear XX h1 b1 d1 d2 k7 hgv
 go_wp2_with (first | (at_builtin; refine app_all w1 rfl (.tmp 25) (.tmp 29) rfl (F:=F) _ s.got rfl rfl HGV.out HF1.out (by omega) ?_; intro v2 vs2 W2 hG2 hb2 hn2; have X2:=hide (X1.out.below hb2); have f0:=X2.out.blk.cell0; have f1:=X2.out.blk.cell1; have f2:=X2.out.blk.cell2; have f3:=X2.out.blk.cell3; have hs2:=hb2.size; have HG2:=hide hG2; have HN2:=hide hn2; have HB2:=hide hb2; have hr2:=row_keep HR.out (w':=W2) (fun g hg hl=>(hb2.block g (by omega)).trans (X1.out.rb.block g hl (fun e=>H.out.ok.f4 (e ▸ HV.out g hg)) (fun e=>H.out.ok.f3 (e ▸ HV.out g hg)))); have HR2:=hide hr2; clear hG2 hb2 hn2 hr2) | (at_builtin; refine app_blk W2 (.slice a0 n0 cap0,lb) b rfl (.tmp 31) (.tmp 33) rfl (F:=Plus F w1) (G:=Plus F w1) _ vs2 s.got _ 1 rfl rfl rfl HG2.out (by omega) (fun g hg=>hg.elim id (fun y=>Or.inr (by omega))) HR2.out (fun g hg=>Or.inl (HV.out g hg)) HD.out (far_new HN2.out (fun g hg=>HF1.out g (HV.out g hg))) ?_; intro v3 W3 hG3 hgr3; have hb3:Below w1.heap.size w1 W3:=(HB2.out.alloc HB2.out.size _).grown hgr3 (by simp; omega) HN2.out; have X3:=hide (X1.out.below hb3); have hs3:=hb3.size; obtain ⟨ga3,gc3,hv3⟩:=hG3.form; rw [List.length_append,List.length_singleton] at hv3; subst hv3; have HG3:=hide hG3; clear hG3 hgr3 hb3))
 refine (joined_any (Plus F w1) _ (s.got ++ [b]) W3 HG3.out.at' (by simp; omega) HSZ.out.1 HSZ.out.2).mono ?_
 rintro e w4 ⟨rfl,hb4⟩
 have X4:=hide (X3.out.below hb4)
 have HG4:=hide (HG3.out.at'.keep (fun g _ hl=>hb4.block g hl))
 have hs4:w1.heap.size ≤ w4.heap.size:=by have:=hb4.size; omega
 unfold msgV
 clear hb4 c12 f0 f1 f2 f3
 dsimp only
 iterate 11 go_step
 generalize hmh:(⟨(joinedM (s.got ++ [b])).head.toArray⟩:ByteArray) = mh at *
 generalize hmt:(⟨(joinedM (s.got ++ [b])).text.toArray⟩:ByteArray) = mt at *
 generalize hmc:(joinedM (s.got ++ [b])).clear = mc at *
 refine wp_at (fun W=>RTx w W F A c now { s with began:=now,wait:=c.lost } [] (.string ⟨b.head.toArray⟩) (.slice a0 n0 cap0) (.bool b.clear) (.bool b.last) ∧ M3 W w4.heap.size mh mt mc ∧ GAt W (Plus F w1) (.slice ga3 (s.got.length + 1) gc3) (s.got ++ [b]) ∧ w4.heap.size < W.heap.size) ⟨X4.out.below (Below.allocN (Below.refl _ _) _),heap_alloc_new w4 _,HG4.out.keep (fun g _ hl=>Below.heap_alloc _ _ _ hl),by simp⟩ ?_
 rintro W5 ⟨x5,m5,g5,l5⟩
 have HMH:=hide hmh
 have HMT:=hide hmt
 have HMC:=hide hmc
 have hsh:mh.size = (joinedM (s.got ++ [b])).head.length:=by rw [← hmh]; rfl
 have hst:mt.size = (joinedM (s.got ++ [b])).text.length:=by rw [← hmt]; rfl
 have hz4:w.heap.size + 1 < w4.heap.size:=EvAt.lt X4.out.ev
 have X5:=hide x5
 have M5:=hide m5
 have G5:=hide g5
 obtain ⟨r0,r1,r2⟩:=m5.cells
 have d1:=x5.at'.lst
 have d2:=x5.at'.ptr
 have c11:=x5.at'.count
 have f11:=x5.at'.zsb 11
 have f12:=x5.at'.zsb 12
 obtain ⟨gq,c12,_⟩:=x5.at'.got
 have n1:=x5.at'.ok.h3
 have n2:=x5.at'.ok.h5
 have n1':=Ne.symm n1
 have n2':=Ne.symm n2
 clear hmh hmt hmc x5 m5 g5
 have HE:Hid (rtakes c now A.i s b = ({ s with began:=now,wait:=c.lost },txOf c (.short 6),none)):=by unfold Hid rtakes; rw [if_pos (Or.inl HC1.out)]
 have g8:(8:Int) < (mh.size:Int):=by have:=HC1.out; omega
 clear hsh hst
 go_wp2_with fail
 refine (says_any F A c now 6 _ [] _ X5.out.at' (by omega)).mono ?_
 rintro e w6 ⟨rfl,h6,b6⟩
 have X6:=hide (X5.out.step h6 b6 lsb lob)
 have V3:=hide X6.out.ev
 clear h6 b6 d1 d2 c11 f11 f12 c12 r0 r1 r2
 obtain ⟨⟨x0,x1,x2,x3,x4,x5⟩,q0,q1,q2,q3,q4,q5⟩:=Ev0.all V3.out
 go_wp2
 (try simp only [Exit.inBlock,Exit.then])
 refine bodyPost_ret (results_ev rfl _ _ (w.heap.size + 1) rfl (EvAt.all V3.out)) rfl ?_
 rw [HE.out]
 exact rtells_end X6.out.at' X6.out.rb (fun _ k=>Or.inl k) (fun k=>absurd (HF.out _ k) (by omega)) (by omega) H.out rfl
theorem takes_text (F:Nat → Prop) (A:RAd) (c:Cfg) (now:Nat) (s:RS) (b:Bk) (v:Value) (lb:List ByteArray) (w:World) (h:RAt w F A c now s []) (hF:∀ g,F g → g < w.heap.size) (hr:w.ownsRow 0 9 1 v lb.length (lb.map Value.string)) (hv:∀ g,v.ownBlock = some g → F g) (hd:datas lb = b.parts) (he:Blk.berr b.head b.parts b.clear = 0) (hb:RBd c now A.i s) (hm:s.mode = 3) (hc1:¬ 8 < (joinedM (s.got ++ [b])).head.length) (hc2:200 < (joinedM (s.got ++ [b])).text.length) :
  Calls Tryz.prog 149 #[.pointer (some ⟨A.yb,0,none⟩),.int .i64 A.i,.agg #[.string ⟨b.head.toArray⟩,v,.bool b.clear,.bool b.last]] w fun e w'=>RTells w F A c now ((rtakes c now A.i s b).1,(rtakes c now A.i s b).2.2) (rtakes c now A.i s b).2.1 e w':=by
 have hi:=h.ok.i
 have lsb:=h.lsb
 have lyb:=h.lyb
 have lsl:=h.lsl
 have lob:=h.lob
 have HBD:=hide hb
 have hcn:=hb.count
 have hgt:=hb.got
 have HSZ:=hide (joined_size (hb.gsz hm).1 (hb.gsz hm).2 he)
 obtain ⟨a0,n0,cap0,rfl⟩:=row_slice hr
 have HR:=hide hr
 have HV:=hide hv
 have HD:=hide hd
 have H:=hide h
 have HF:=hide hF
 have X:=hide (RTx.mk' (x0:=.string ⟨b.head.toArray⟩) (x1:=.slice a0 n0 cap0) (x2:=.bool b.clear) (x3:=.bool b.last) h)
 have HC1:=hide hc1
 have HC2:=hide hc2
 clear hc1 hc2
 clear h hF hb hr hv hd he hm
 go_enter Tryz.func149,Tryz.ntmps149
 iterate 8 go_step
 refine k_at (fun W=>RTx w W F A c now s [] (.string ⟨b.head.toArray⟩) (.slice a0 n0 cap0) (.bool b.clear) (.bool b.last)) X.out ?_
 rintro W hX
 have XX:=hide hX
 have d1:=hX.at'.lst
 have d2:=hX.at'.ptr
 have k7:=hX.at'.cfg.2.2.2.2.2.2.2.1
 clear hX X
 go_wp2_with fail
 refine (waits_any F A c now c.lost s [] _ XX.out.at').mono ?_
 rintro e w1 ⟨rfl,h1,b1⟩
 have X1:=hide (XX.out.step h1 b1 lsb lob)
 have hs1:w.heap.size ≤ w1.heap.size:=by have:=X1.out.rb.size; exact this
 obtain ⟨gv,c12,hgv⟩:=h1.got
 obtain ⟨ga,gcap,rfl⟩:=hgv.form
 have HGV:=hide hgv
 have HF1:Hid (∀ g,F g → g < w1.heap.size):=fun g k=>Nat.lt_of_lt_of_le (HF.out g k) hs1
 clear XX h1 b1 d1 d2 k7 hgv
 go_wp2_with (first | (at_builtin; refine app_all w1 rfl (.tmp 25) (.tmp 29) rfl (F:=F) _ s.got rfl rfl HGV.out HF1.out (by omega) ?_; intro v2 vs2 W2 hG2 hb2 hn2; have X2:=hide (X1.out.below hb2); have f0:=X2.out.blk.cell0; have f1:=X2.out.blk.cell1; have f2:=X2.out.blk.cell2; have f3:=X2.out.blk.cell3; have hs2:=hb2.size; have HG2:=hide hG2; have HN2:=hide hn2; have HB2:=hide hb2; have hr2:=row_keep HR.out (w':=W2) (fun g hg hl=>(hb2.block g (by omega)).trans (X1.out.rb.block g hl (fun e=>H.out.ok.f4 (e ▸ HV.out g hg)) (fun e=>H.out.ok.f3 (e ▸ HV.out g hg)))); have HR2:=hide hr2; clear hG2 hb2 hn2 hr2) | (at_builtin; refine app_blk W2 (.slice a0 n0 cap0,lb) b rfl (.tmp 31) (.tmp 33) rfl (F:=Plus F w1) (G:=Plus F w1) _ vs2 s.got _ 1 rfl rfl rfl HG2.out (by omega) (fun g hg=>hg.elim id (fun y=>Or.inr (by omega))) HR2.out (fun g hg=>Or.inl (HV.out g hg)) HD.out (far_new HN2.out (fun g hg=>HF1.out g (HV.out g hg))) ?_; intro v3 W3 hG3 hgr3; have hb3:Below w1.heap.size w1 W3:=(HB2.out.alloc HB2.out.size _).grown hgr3 (by simp; omega) HN2.out; have X3:=hide (X1.out.below hb3); have hs3:=hb3.size; obtain ⟨ga3,gc3,hv3⟩:=hG3.form; rw [List.length_append,List.length_singleton] at hv3; subst hv3; have HG3:=hide hG3; clear hG3 hgr3 hb3))
 refine (joined_any (Plus F w1) _ (s.got ++ [b]) W3 HG3.out.at' (by simp; omega) HSZ.out.1 HSZ.out.2).mono ?_
 rintro e w4 ⟨rfl,hb4⟩
 have X4:=hide (X3.out.below hb4)
 have HG4:=hide (HG3.out.at'.keep (fun g _ hl=>hb4.block g hl))
 have hs4:w1.heap.size ≤ w4.heap.size:=by have:=hb4.size; omega
 unfold msgV
 clear hb4 c12 f0 f1 f2 f3
 dsimp only
 iterate 11 go_step
 generalize hmh:(⟨(joinedM (s.got ++ [b])).head.toArray⟩:ByteArray) = mh at *
 generalize hmt:(⟨(joinedM (s.got ++ [b])).text.toArray⟩:ByteArray) = mt at *
 generalize hmc:(joinedM (s.got ++ [b])).clear = mc at *
 refine wp_at (fun W=>RTx w W F A c now { s with began:=now,wait:=c.lost } [] (.string ⟨b.head.toArray⟩) (.slice a0 n0 cap0) (.bool b.clear) (.bool b.last) ∧ M3 W w4.heap.size mh mt mc ∧ GAt W (Plus F w1) (.slice ga3 (s.got.length + 1) gc3) (s.got ++ [b]) ∧ w4.heap.size < W.heap.size) ⟨X4.out.below (Below.allocN (Below.refl _ _) _),heap_alloc_new w4 _,HG4.out.keep (fun g _ hl=>Below.heap_alloc _ _ _ hl),by simp⟩ ?_
 rintro W5 ⟨x5,m5,g5,l5⟩
 have HMH:=hide hmh
 have HMT:=hide hmt
 have HMC:=hide hmc
 have hsh:mh.size = (joinedM (s.got ++ [b])).head.length:=by rw [← hmh]; rfl
 have hst:mt.size = (joinedM (s.got ++ [b])).text.length:=by rw [← hmt]; rfl
 have hz4:w.heap.size + 1 < w4.heap.size:=EvAt.lt X4.out.ev
 have X5:=hide x5
 have M5:=hide m5
 have G5:=hide g5
 obtain ⟨r0,r1,r2⟩:=m5.cells
 have d1:=x5.at'.lst
 have d2:=x5.at'.ptr
 have c11:=x5.at'.count
 have f11:=x5.at'.zsb 11
 have f12:=x5.at'.zsb 12
 obtain ⟨gq,c12,_⟩:=x5.at'.got
 have n1:=x5.at'.ok.h3
 have n2:=x5.at'.ok.h5
 have n1':=Ne.symm n1
 have n2':=Ne.symm n2
 clear hmh hmt hmc x5 m5 g5
 have HE:Hid (rtakes c now A.i s b = ({ s with began:=now,wait:=c.lost },txOf c (.short 6),none)):=by unfold Hid rtakes; rw [if_pos (Or.inr HC2.out)]
 have g8:¬ (8:Int) < (mh.size:Int):=by have:=HC1.out; omega
 have g9:(200:Int) < (mt.size:Int):=by have:=HC2.out; omega
 clear hsh hst
 go_wp2_with fail
 refine (says_any F A c now 6 _ [] _ X5.out.at' (by omega)).mono ?_
 rintro e w6 ⟨rfl,h6,b6⟩
 have X6:=hide (X5.out.step h6 b6 lsb lob)
 have V3:=hide X6.out.ev
 clear h6 b6 d1 d2 c11 f11 f12 c12 r0 r1 r2
 obtain ⟨⟨x0,x1,x2,x3,x4,x5⟩,q0,q1,q2,q3,q4,q5⟩:=Ev0.all V3.out
 go_wp2
 (try simp only [Exit.inBlock,Exit.then])
 refine bodyPost_ret (results_ev rfl _ _ (w.heap.size + 1) rfl (EvAt.all V3.out)) rfl ?_
 rw [HE.out]
 exact rtells_end X6.out.at' X6.out.rb (fun _ k=>Or.inl k) (fun k=>absurd (HF.out _ k) (by omega)) (by omega) H.out rfl
theorem takes_more (F:Nat → Prop) (A:RAd) (c:Cfg) (now:Nat) (s:RS) (b:Bk) (v:Value) (lb:List ByteArray) (w:World) (h:RAt w F A c now s []) (hF:∀ g,F g → g < w.heap.size) (hr:w.ownsRow 0 9 1 v lb.length (lb.map Value.string)) (hv:∀ g,v.ownBlock = some g → F g) (hd:datas lb = b.parts) (he:Blk.berr b.head b.parts b.clear = 0) (hb:RBd c now A.i s) (hm:s.mode = 3) (hc1:¬ 8 < (joinedM (s.got ++ [b])).head.length) (hc2:¬ 200 < (joinedM (s.got ++ [b])).text.length) (hla:b.last = false) :
  Calls Tryz.prog 149 #[.pointer (some ⟨A.yb,0,none⟩),.int .i64 A.i,.agg #[.string ⟨b.head.toArray⟩,v,.bool b.clear,.bool b.last]] w fun e w'=>RTells w F A c now ((rtakes c now A.i s b).1,(rtakes c now A.i s b).2.2) (rtakes c now A.i s b).2.1 e w':=by
 have hi:=h.ok.i
 have lsb:=h.lsb
 have lyb:=h.lyb
 have lsl:=h.lsl
 have lob:=h.lob
 have HBD:=hide hb
 have hcn:=hb.count
 have hgt:=hb.got
 have HSZ:=hide (joined_size (hb.gsz hm).1 (hb.gsz hm).2 he)
 obtain ⟨a0,n0,cap0,rfl⟩:=row_slice hr
 have HR:=hide hr
 have HV:=hide hv
 have HD:=hide hd
 have H:=hide h
 have HF:=hide hF
 have X:=hide (RTx.mk' (x0:=.string ⟨b.head.toArray⟩) (x1:=.slice a0 n0 cap0) (x2:=.bool b.clear) (x3:=.bool b.last) h)
 have HC1:=hide hc1
 have HC2:=hide hc2
 have HLA:=hide hla
 clear hc1 hc2 hla
 clear h hF hb hr hv hd he hm
 go_enter Tryz.func149,Tryz.ntmps149
 iterate 8 go_step
 refine k_at (fun W=>RTx w W F A c now s [] (.string ⟨b.head.toArray⟩) (.slice a0 n0 cap0) (.bool b.clear) (.bool b.last)) X.out ?_
 rintro W hX
 have XX:=hide hX
 have d1:=hX.at'.lst
 have d2:=hX.at'.ptr
 have k7:=hX.at'.cfg.2.2.2.2.2.2.2.1
 clear hX X
 go_wp2_with fail
 refine (waits_any F A c now c.lost s [] _ XX.out.at').mono ?_
 rintro e w1 ⟨rfl,h1,b1⟩
 have X1:=hide (XX.out.step h1 b1 lsb lob)
 have hs1:w.heap.size ≤ w1.heap.size:=by have:=X1.out.rb.size; exact this
 obtain ⟨gv,c12,hgv⟩:=h1.got
 obtain ⟨ga,gcap,rfl⟩:=hgv.form
 have HGV:=hide hgv
 have HF1:Hid (∀ g,F g → g < w1.heap.size):=fun g k=>Nat.lt_of_lt_of_le (HF.out g k) hs1
 clear XX h1 b1 d1 d2 k7 hgv
 go_wp2_with (first | (at_builtin; refine app_all w1 rfl (.tmp 25) (.tmp 29) rfl (F:=F) _ s.got rfl rfl HGV.out HF1.out (by omega) ?_; intro v2 vs2 W2 hG2 hb2 hn2; have X2:=hide (X1.out.below hb2); have f0:=X2.out.blk.cell0; have f1:=X2.out.blk.cell1; have f2:=X2.out.blk.cell2; have f3:=X2.out.blk.cell3; have hs2:=hb2.size; have HG2:=hide hG2; have HN2:=hide hn2; have HB2:=hide hb2; have hr2:=row_keep HR.out (w':=W2) (fun g hg hl=>(hb2.block g (by omega)).trans (X1.out.rb.block g hl (fun e=>H.out.ok.f4 (e ▸ HV.out g hg)) (fun e=>H.out.ok.f3 (e ▸ HV.out g hg)))); have HR2:=hide hr2; clear hG2 hb2 hn2 hr2) | (at_builtin; refine app_blk W2 (.slice a0 n0 cap0,lb) b rfl (.tmp 31) (.tmp 33) rfl (F:=Plus F w1) (G:=Plus F w1) _ vs2 s.got _ 1 rfl rfl rfl HG2.out (by omega) (fun g hg=>hg.elim id (fun y=>Or.inr (by omega))) HR2.out (fun g hg=>Or.inl (HV.out g hg)) HD.out (far_new HN2.out (fun g hg=>HF1.out g (HV.out g hg))) ?_; intro v3 W3 hG3 hgr3; have hb3:Below w1.heap.size w1 W3:=(HB2.out.alloc HB2.out.size _).grown hgr3 (by simp; omega) HN2.out; have X3:=hide (X1.out.below hb3); have hs3:=hb3.size; obtain ⟨ga3,gc3,hv3⟩:=hG3.form; rw [List.length_append,List.length_singleton] at hv3; subst hv3; have HG3:=hide hG3; clear hG3 hgr3 hb3))
 refine (joined_any (Plus F w1) _ (s.got ++ [b]) W3 HG3.out.at' (by simp; omega) HSZ.out.1 HSZ.out.2).mono ?_
 rintro e w4 ⟨rfl,hb4⟩
 have X4:=hide (X3.out.below hb4)
 have HG4:=hide (HG3.out.at'.keep (fun g _ hl=>hb4.block g hl))
 have hs4:w1.heap.size ≤ w4.heap.size:=by have:=hb4.size; omega
 unfold msgV
 clear hb4 c12 f0 f1 f2 f3
 dsimp only
 iterate 11 go_step
 generalize hmh:(⟨(joinedM (s.got ++ [b])).head.toArray⟩:ByteArray) = mh at *
 generalize hmt:(⟨(joinedM (s.got ++ [b])).text.toArray⟩:ByteArray) = mt at *
 generalize hmc:(joinedM (s.got ++ [b])).clear = mc at *
 refine wp_at (fun W=>RTx w W F A c now { s with began:=now,wait:=c.lost } [] (.string ⟨b.head.toArray⟩) (.slice a0 n0 cap0) (.bool b.clear) (.bool b.last) ∧ M3 W w4.heap.size mh mt mc ∧ GAt W (Plus F w1) (.slice ga3 (s.got.length + 1) gc3) (s.got ++ [b]) ∧ w4.heap.size < W.heap.size) ⟨X4.out.below (Below.allocN (Below.refl _ _) _),heap_alloc_new w4 _,HG4.out.keep (fun g _ hl=>Below.heap_alloc _ _ _ hl),by simp⟩ ?_
 rintro W5 ⟨x5,m5,g5,l5⟩
 have HMH:=hide hmh
 have HMT:=hide hmt
 have HMC:=hide hmc
 have hsh:mh.size = (joinedM (s.got ++ [b])).head.length:=by rw [← hmh]; rfl
 have hst:mt.size = (joinedM (s.got ++ [b])).text.length:=by rw [← hmt]; rfl
 have hz4:w.heap.size + 1 < w4.heap.size:=EvAt.lt X4.out.ev
 have X5:=hide x5
 have M5:=hide m5
 have G5:=hide g5
 obtain ⟨r0,r1,r2⟩:=m5.cells
 have d1:=x5.at'.lst
 have d2:=x5.at'.ptr
 have c11:=x5.at'.count
 have f11:=x5.at'.zsb 11
 have f12:=x5.at'.zsb 12
 obtain ⟨gq,c12,_⟩:=x5.at'.got
 have n1:=x5.at'.ok.h3
 have n2:=x5.at'.ok.h5
 have n1':=Ne.symm n1
 have n2':=Ne.symm n2
 clear hmh hmt hmc x5 m5 g5
 have hla:=HLA.out
 have HE:Hid (rtakes c now A.i s b = ({ s with began:=now,wait:=c.lost,count:=s.count + 1,got:=s.got ++ [b] },shortB (if s.busy then 9 else yesN (s.count + 1)),none)):=by unfold Hid rtakes; rw [if_neg (by have:=HC1.out; have:=HC2.out; omega),hla]; unfold rtells; simp only [Bool.false_eq_true,if_false]; cases s.busy <;> rfl
 have g8:¬ (8:Int) < (mh.size:Int):=by have:=HC1.out; omega
 have g9:¬ (200:Int) < (mt.size:Int):=by have:=HC2.out; omega
 clear hsh hst
 have hokP:A.Ok (Plus F w1):=X5.out.at'.ok.plus (by omega) (by omega) (by omega) (by omega)
 go_wp2_with fail
 refine (tells_any (Plus F w1) A c now _ [] _ ((X5.out.at'.got' _ _ G5.out (fun _ k=>Or.inl k) hokP).count' (s.count + 1)) (by show s.count + 1 ≤ _; omega)).mono ?_
 rintro e w6 ⟨rfl,h6,b6⟩
 have hb6:=((((RB.refl A W5).setS H.out.ok.h6 12 _).setS H.out.ok.h6 11 _).trans b6)
 have X6:=hide (X5.out.step h6 hb6 lsb lob)
 have M6:Hid (M3 w6 w4.heap.size mh mt mc):=(hb6.block _ l5 (by omega) (by omega)).trans M5.out
 have V3:=hide X6.out.ev
 have f3:=X6.out.blk.cell3
 have e1:=X6.out.at'.lst
 have e2:=X6.out.at'.ptr
 obtain ⟨gq2,e12,_⟩:=X6.out.at'.got
 have z12:=X6.out.at'.zsb 12
 obtain ⟨p0,p1,p2⟩:=M6.out.cells
 clear h6 b6 hb6 d1 d2 c11 f11 f12 c12 r0 r1 r2
 rw [hla] at f3
 obtain ⟨⟨x0,x1,x2,x3,x4,x5⟩,q0,q1,q2,q3,q4,q5⟩:=Ev0.all V3.out
 go_wp2
 (try simp only [Exit.inBlock,Exit.then])
 refine bodyPost_ret (results_ev rfl _ _ (w.heap.size + 1) rfl (EvAt.all V3.out)) rfl ?_
 rw [HE.out]
 exact rtells_end (r:=({ s with began:=now,wait:=c.lost,count:=s.count + 1,got:=s.got ++ [b] },none)) X6.out.at' X6.out.rb (Plus.sub hs1) (fun k=>k.elim (fun y=>absurd (HF.out _ y) (by omega)) (fun y=>by have:=EvAt.lt X1.out.ev; omega)) (by omega) H.out rfl
theorem takes_last (F:Nat → Prop) (A:RAd) (c:Cfg) (now:Nat) (s:RS) (b:Bk) (v:Value) (lb:List ByteArray) (w:World) (h:RAt w F A c now s []) (hF:∀ g,F g → g < w.heap.size) (hr:w.ownsRow 0 9 1 v lb.length (lb.map Value.string)) (hv:∀ g,v.ownBlock = some g → F g) (hd:datas lb = b.parts) (he:Blk.berr b.head b.parts b.clear = 0) (hb:RBd c now A.i s) (hm:s.mode = 3) (hc1:¬ 8 < (joinedM (s.got ++ [b])).head.length) (hc2:¬ 200 < (joinedM (s.got ++ [b])).text.length) (hla:b.last = true) :
  Calls Tryz.prog 149 #[.pointer (some ⟨A.yb,0,none⟩),.int .i64 A.i,.agg #[.string ⟨b.head.toArray⟩,v,.bool b.clear,.bool b.last]] w fun e w'=>RTells w F A c now ((rtakes c now A.i s b).1,(rtakes c now A.i s b).2.2) (rtakes c now A.i s b).2.1 e w':=by
 have hi:=h.ok.i
 have lsb:=h.lsb
 have lyb:=h.lyb
 have lsl:=h.lsl
 have lob:=h.lob
 have HBD:=hide hb
 have hcn:=hb.count
 have hgt:=hb.got
 have HSZ:=hide (joined_size (hb.gsz hm).1 (hb.gsz hm).2 he)
 obtain ⟨a0,n0,cap0,rfl⟩:=row_slice hr
 have HR:=hide hr
 have HV:=hide hv
 have HD:=hide hd
 have H:=hide h
 have HF:=hide hF
 have X:=hide (RTx.mk' (x0:=.string ⟨b.head.toArray⟩) (x1:=.slice a0 n0 cap0) (x2:=.bool b.clear) (x3:=.bool b.last) h)
 have HC1:=hide hc1
 have HC2:=hide hc2
 have HLA:=hide hla
 clear hc1 hc2 hla
 clear h hF hb hr hv hd he hm
 go_enter Tryz.func149,Tryz.ntmps149
 iterate 8 go_step
 refine k_at (fun W=>RTx w W F A c now s [] (.string ⟨b.head.toArray⟩) (.slice a0 n0 cap0) (.bool b.clear) (.bool b.last)) X.out ?_
 rintro W hX
 have XX:=hide hX
 have d1:=hX.at'.lst
 have d2:=hX.at'.ptr
 have k7:=hX.at'.cfg.2.2.2.2.2.2.2.1
 clear hX X
 go_wp2_with fail
 refine (waits_any F A c now c.lost s [] _ XX.out.at').mono ?_
 rintro e w1 ⟨rfl,h1,b1⟩
 have X1:=hide (XX.out.step h1 b1 lsb lob)
 have hs1:w.heap.size ≤ w1.heap.size:=by have:=X1.out.rb.size; exact this
 obtain ⟨gv,c12,hgv⟩:=h1.got
 obtain ⟨ga,gcap,rfl⟩:=hgv.form
 have HGV:=hide hgv
 have HF1:Hid (∀ g,F g → g < w1.heap.size):=fun g k=>Nat.lt_of_lt_of_le (HF.out g k) hs1
 clear XX h1 b1 d1 d2 k7 hgv
 go_wp2_with (first | (at_builtin; refine app_all w1 rfl (.tmp 25) (.tmp 29) rfl (F:=F) _ s.got rfl rfl HGV.out HF1.out (by omega) ?_; intro v2 vs2 W2 hG2 hb2 hn2; have X2:=hide (X1.out.below hb2); have f0:=X2.out.blk.cell0; have f1:=X2.out.blk.cell1; have f2:=X2.out.blk.cell2; have f3:=X2.out.blk.cell3; have hs2:=hb2.size; have HG2:=hide hG2; have HN2:=hide hn2; have HB2:=hide hb2; have hr2:=row_keep HR.out (w':=W2) (fun g hg hl=>(hb2.block g (by omega)).trans (X1.out.rb.block g hl (fun e=>H.out.ok.f4 (e ▸ HV.out g hg)) (fun e=>H.out.ok.f3 (e ▸ HV.out g hg)))); have HR2:=hide hr2; clear hG2 hb2 hn2 hr2) | (at_builtin; refine app_blk W2 (.slice a0 n0 cap0,lb) b rfl (.tmp 31) (.tmp 33) rfl (F:=Plus F w1) (G:=Plus F w1) _ vs2 s.got _ 1 rfl rfl rfl HG2.out (by omega) (fun g hg=>hg.elim id (fun y=>Or.inr (by omega))) HR2.out (fun g hg=>Or.inl (HV.out g hg)) HD.out (far_new HN2.out (fun g hg=>HF1.out g (HV.out g hg))) ?_; intro v3 W3 hG3 hgr3; have hb3:Below w1.heap.size w1 W3:=(HB2.out.alloc HB2.out.size _).grown hgr3 (by simp; omega) HN2.out; have X3:=hide (X1.out.below hb3); have hs3:=hb3.size; obtain ⟨ga3,gc3,hv3⟩:=hG3.form; rw [List.length_append,List.length_singleton] at hv3; subst hv3; have HG3:=hide hG3; clear hG3 hgr3 hb3))
 refine (joined_any (Plus F w1) _ (s.got ++ [b]) W3 HG3.out.at' (by simp; omega) HSZ.out.1 HSZ.out.2).mono ?_
 rintro e w4 ⟨rfl,hb4⟩
 have X4:=hide (X3.out.below hb4)
 have HG4:=hide (HG3.out.at'.keep (fun g _ hl=>hb4.block g hl))
 have hs4:w1.heap.size ≤ w4.heap.size:=by have:=hb4.size; omega
 unfold msgV
 clear hb4 c12 f0 f1 f2 f3
 dsimp only
 iterate 11 go_step
 generalize hmh:(⟨(joinedM (s.got ++ [b])).head.toArray⟩:ByteArray) = mh at *
 generalize hmt:(⟨(joinedM (s.got ++ [b])).text.toArray⟩:ByteArray) = mt at *
 generalize hmc:(joinedM (s.got ++ [b])).clear = mc at *
 refine wp_at (fun W=>RTx w W F A c now { s with began:=now,wait:=c.lost } [] (.string ⟨b.head.toArray⟩) (.slice a0 n0 cap0) (.bool b.clear) (.bool b.last) ∧ M3 W w4.heap.size mh mt mc ∧ GAt W (Plus F w1) (.slice ga3 (s.got.length + 1) gc3) (s.got ++ [b]) ∧ w4.heap.size < W.heap.size) ⟨X4.out.below (Below.allocN (Below.refl _ _) _),heap_alloc_new w4 _,HG4.out.keep (fun g _ hl=>Below.heap_alloc _ _ _ hl),by simp⟩ ?_
 rintro W5 ⟨x5,m5,g5,l5⟩
 have HMH:=hide hmh
 have HMT:=hide hmt
 have HMC:=hide hmc
 have hsh:mh.size = (joinedM (s.got ++ [b])).head.length:=by rw [← hmh]; rfl
 have hst:mt.size = (joinedM (s.got ++ [b])).text.length:=by rw [← hmt]; rfl
 have hz4:w.heap.size + 1 < w4.heap.size:=EvAt.lt X4.out.ev
 have X5:=hide x5
 have M5:=hide m5
 have G5:=hide g5
 obtain ⟨r0,r1,r2⟩:=m5.cells
 have d1:=x5.at'.lst
 have d2:=x5.at'.ptr
 have c11:=x5.at'.count
 have f11:=x5.at'.zsb 11
 have f12:=x5.at'.zsb 12
 obtain ⟨gq,c12,_⟩:=x5.at'.got
 have n1:=x5.at'.ok.h3
 have n2:=x5.at'.ok.h5
 have n1':=Ne.symm n1
 have n2':=Ne.symm n2
 clear hmh hmt hmc x5 m5 g5
 have hla:=HLA.out
 have HE:Hid (rtakes c now A.i s b = ({ s with began:=now,wait:=c.lost,count:=s.count + 1,got:=[] },shortB (if s.busy then 9 else yesN (s.count + 1)),some ⟨1,A.i,0,joinedM (s.got ++ [b])⟩)):=by unfold Hid rtakes; rw [if_neg (by have:=HC1.out; have:=HC2.out; omega),hla]; unfold rtells; simp only [if_true]; cases s.busy <;> rfl
 have g8:¬ (8:Int) < (mh.size:Int):=by have:=HC1.out; omega
 have g9:¬ (200:Int) < (mt.size:Int):=by have:=HC2.out; omega
 clear hsh hst
 have hokP:A.Ok (Plus F w1):=X5.out.at'.ok.plus (by omega) (by omega) (by omega) (by omega)
 go_wp2_with fail
 refine (tells_any (Plus F w1) A c now _ [] _ ((X5.out.at'.got' _ _ G5.out (fun _ k=>Or.inl k) hokP).count' (s.count + 1)) (by show s.count + 1 ≤ _; omega)).mono ?_
 rintro e w6 ⟨rfl,h6,b6⟩
 have hb6:=((((RB.refl A W5).setS H.out.ok.h6 12 _).setS H.out.ok.h6 11 _).trans b6)
 have X6:=hide (X5.out.step h6 hb6 lsb lob)
 have M6:Hid (M3 w6 w4.heap.size mh mt mc):=(hb6.block _ l5 (by omega) (by omega)).trans M5.out
 have V3:=hide X6.out.ev
 have f3:=X6.out.blk.cell3
 have e1:=X6.out.at'.lst
 have e2:=X6.out.at'.ptr
 obtain ⟨gq2,e12,_⟩:=X6.out.at'.got
 have z12:=X6.out.at'.zsb 12
 obtain ⟨p0,p1,p2⟩:=M6.out.cells
 clear h6 b6 hb6 d1 d2 c11 f11 f12 c12 r0 r1 r2
 rw [hla] at f3
 have V4:Ev0 (w6.setCell ⟨A.sb,12,none⟩ (.slice none 0 0)) (w.heap.size + 1):=(Below.heap_setCell _ _ _ _ (by simp only; omega)).trans V3.out
 have hb7:=X6.out.rb.setS H.out.ok.h6 12 (.slice none 0 0)
 have h7:=X6.out.at'.got0
 have m7:M3 (w6.setCell ⟨A.sb,12,none⟩ (.slice none 0 0)) w4.heap.size mh mt mc:=M6.out.other (by omega)
 have HB7:=hide hb7
 have H7:=hide h7
 obtain ⟨p0,p1,p2⟩:=m7.cells
 obtain ⟨⟨x0,x1,x2,x3,x4,x5⟩,q0,q1,q2,q3,q4,q5⟩:=Ev0.all V4
 have HV4:=hide V4
 clear V4 hb7 h7 m7
 go_wp2
 (try simp only [Exit.inBlock,Exit.then])
 refine bodyPost_ret (results_ev rfl _ _ (w.heap.size + 1) rfl (EvAt.all HV4.out)) rfl ?_
 rw [HE.out]
 exact rtells_end (r:=({ s with began:=now,wait:=c.lost,count:=s.count + 1,got:=[] },some ⟨1,A.i,0,joinedM (s.got ++ [b])⟩)) H7.out HB7.out (Plus.sub hs1) (fun k=>k.elim (fun y=>absurd (HF.out _ y) (by omega)) (fun y=>by have:=EvAt.lt X1.out.ev; omega)) (by omega) H.out (by rw [← HMH.out,← HMT.out,← HMC.out]; rfl)
theorem rtakes_any (F:Nat → Prop) (A:RAd) (c:Cfg) (now:Nat) (s:RS) (b:Bk) (v:Value) (lb:List ByteArray) (w:World) (h:RAt w F A c now s []) (hF:∀ g,F g → g < w.heap.size) (hr:w.ownsRow 0 9 1 v lb.length (lb.map Value.string)) (hv:∀ g,v.ownBlock = some g → F g) (hd:datas lb = b.parts) (he:Blk.berr b.head b.parts b.clear = 0) (hb:RBd c now A.i s) (hm:s.mode = 3) :
  Calls Tryz.prog 149 #[.pointer (some ⟨A.yb,0,none⟩),.int .i64 A.i,.agg #[.string ⟨b.head.toArray⟩,v,.bool b.clear,.bool b.last]] w fun e w'=>RTells w F A c now ((rtakes c now A.i s b).1,(rtakes c now A.i s b).2.2) (rtakes c now A.i s b).2.1 e w':=by
 by_cases h1:8 < (joinedM (s.got ++ [b])).head.length
 ·exact takes_head F A c now s b v lb w h hF hr hv hd he hb hm h1
 ·by_cases h2:200 < (joinedM (s.got ++ [b])).text.length
  ·exact takes_text F A c now s b v lb w h hF hr hv hd he hb hm h1 h2
  ·cases h3:b.last
   ·exact h3 ▸ takes_more F A c now s b v lb w h hF hr hv hd he hb hm h1 h2 h3
   ·exact h3 ▸ takes_last F A c now s b v lb w h hF hr hv hd he hb hm h1 h2 h3
end Go.Proofs.YtlbpjcphhocdkaaGreat
