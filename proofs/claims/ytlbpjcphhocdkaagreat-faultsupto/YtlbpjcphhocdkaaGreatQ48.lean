/- The law's World: a pair is looked at; a list is kept. The law's World: some ticks. The law's World: a line is opened. -/
import Derived.Test.YtlbpjcphhocdkaaGreatQ47
import Derived.Test.YtlbpjcphhocdkaaGreatQ46
set_option maxRecDepth 1000000
set_option maxHeartbeats 16000000
namespace Go.Proofs.YtlbpjcphhocdkaaGreat
open Go.RowKit Go.Proofs.YtlbpjcphhocdkaaGreat.Mod Go.Proofs.YtlbpjcphhocdkaaGreat.Pst
theorem look_form (x:Ln) (st:Int):∃ (m q:Int) (y:Bool),lookOf x st = .agg #[.int .i64 m,.int .i64 q,.bool y]:=by
 unfold lookOf viewV
 split
 ·exact ⟨_,_,_,rfl⟩
 ·split <;> exact ⟨_,_,_,rfl⟩
theorem seen_line (p:PA) (x:Ln) (F G:Nat → Prop) (st:Int) (w:World) (hp:PairAt w p.pb p.xb p.yb) (hl:LineAt w F p.xb x) (hd:DocAt w G p.yb x) :
  Calls Tryz.prog 16 #[.pointer (some ⟨p.pb,0,none⟩),.int .i64 st] w fun e w'=>e = .returned (.bool true) ∧ Below w.heap.size w w':=by
 obtain ⟨m,q,y,hv⟩:=look_form x st
 refine seen_any p.pb p.xb p.yb st m q y w hp (fun w2 hb2=>?_) (fun w2 hb2=>?_)
 ·rw [← hv]; exact look_line F p.xb x st w2 (hl.below hb2)
 ·rw [← hv]; exact rlook_line G p.yb x st w2 (hd.below hb2)
theorem heard_line (p:PA) (x:Ln) (F G:Nat → Prop) (st:Int) (w:World) (hp:PairAt w p.pb p.xb p.yb) (hl:LineAt w F p.xb x) (hd:DocAt w G p.yb x) :
  Calls Tryz.prog 17 #[.pointer (some ⟨p.pb,0,none⟩),.int .i64 st] w fun e w'=>e = .returned (.bool true) ∧ Below w.heap.size w w' :=
 heard_pair p.pb p.xb p.yb st _ w hp (fun w2 hb2=>onLine_line F p.xb x st w2 (hl.below hb2)) (fun w2 hb2=>ronLine_line G p.yb x st w2 (hd.below hb2))
theorem looks_line (p:PA) (x:Ln) (F G:Nat → Prop) (w:World) (hp:PairAt w p.pb p.xb p.yb) (hl:LineAt w F p.xb x) (hd:DocAt w G p.yb x) :
  Calls Tryz.prog 11 #[.pointer (some ⟨p.pb,0,none⟩)] w fun e w'=>e = .returned (.bool true) ∧ Below w.heap.size w w' :=
 looks_any p.pb w fun st w1 _ hb=>⟨seen_line p x F G st w1 ((hb.block _ (lt_of_block hp)).trans hp) (hl.below hb) (hd.below hb),heard_line p x F G st w1 ((hb.block _ (lt_of_block hp)).trans hp) (hl.below hb) (hd.below hb)⟩
/-- What keeping a list leaves. -/
def Kn (A:Nat → Nat) (wb:Nat) (ps:List PA) (n:Nat) (v:Value) (w w':World):Prop :=
 ∃ A',WAt w' A' wb ps n ∧ Fr (fun x=>A x ≠ 0 ∨ v.ownBlock = some x) w w' ∧ ∀ x,x < w.heap.size → A x = 0 → v.ownBlock ≠ some x → A' x = 0
/-- The caller keeps a list. -/
theorem keep_w (wb:Nat) (A:Nat → Nat) (ps:List PA) (n B:Nat) (v:Value) (l:List Ev) (w:World) (h:WAt w A wb ps n) (ho:OwnE w B v l) (hA:∀ g,v.ownBlock = some g → A g = 0) (hn:n ≤ 1000000000) :
  Calls Tryz.prog 64 #[.pointer (some ⟨wb,0,none⟩),v] w fun e w'=>e = .returned (.tuple #[]) ∧ Kn A wb ps (n + 1) v w w':=by
 rcases ho.full with rfl | ⟨g,cap,xs,rfl,_,hgl,hlc,hrow⟩
 ·refine (keep_nil wb w).mono ?_
  rintro e w' ⟨rfl,rfl⟩
  exact ⟨rfl,A,h.le (Nat.le_succ n),Fr.refl _ _,fun _ _ z _=>z⟩
 ·rcases Nat.eq_zero_or_pos cap with z | z
  ·subst z
   have hl0:l.length = 0:=by omega
   rw [hl0]
   refine (keep_zero wb g w).mono ?_
   rintro e w' ⟨rfl,rfl⟩
   exact ⟨rfl,A,h.le (Nat.le_succ n),Fr.refl _ _,fun _ _ z _=>z⟩
  ·obtain ⟨vl,vk,ys,ks,hw,hf,hk⟩:=h
   have hg0:A g = 0:=hA g rfl
   refine (keep_some wb vl vk ks g l.length cap xs w hw.blk hw.rk hrow hlc z (fun e=>?_) (fun e=>?_) (fun e=>?_) (by omega)).mono ?_
   ·have:=hw.c1; rw [← e] at this; omega
   ·have:=hw.c3 g e; omega
   ·have:=hw.c3 wb e; have:=hw.c1; omega
   ·rintro e w' ⟨rfl,vk',b1,b2,b3,b4,b5⟩
    refine ⟨rfl,_,⟨vl,vk',ys,ks ++ [(g,cap)],hw.put b1 b2 b3 b4 b5 hg0 hgl,fun x hx=>(hf x hx).le (Nat.le_succ n),by simp; omega⟩,b4.mono ?_,?_⟩
    ·rintro x (e | e | e)
     ·left; rw [e,hw.c1]; decide
     ·right; rw [e]; rfl
     ·left; rw [hw.c3 x e]; decide
    ·intro x hx z0 ne
     show (if x = g then 4 else if vk'.ownBlock = some x then 3 else A x) = 0
     rw [if_neg (fun e:x = g=>ne (by rw [e]; rfl)),if_neg,z0]
     intro e
     rcases b5 x e with y | y
     ·have:=hw.c3 x y; omega
     ·omega
/-- A tick of both,and the list kept. -/
theorem tick_nx {w w2 w3 w4:World} {A A':Nat → Nat} {wb n:Nat} {ps:List PA} {v:Value} (f:Fr (fun g=>A g ≠ 0) w w2) (hA:∀ g,g < w.heap.size → A' g = A g) (b:Below w2.heap.size w2 w3) (k:Kn A' wb ps n v w3 w4) (hv:∀ g,v.ownBlock = some g → w.heap.size ≤ g):Nx A wb ps n w w4:=by
 obtain ⟨A2,h2,f2,z2⟩:=k
 have s1:=f.size
 have s2:=b.size
 have s3:=f2.size
 have hne:∀ g,g < w.heap.size → v.ownBlock ≠ some g:=fun g hg e=>by have:=hv g e; omega
 refine ⟨A2,h2,⟨f2.os.trans (b.os.trans f.os),f2.tape.trans (b.tape.trans f.tape),f2.output.trans (b.output.trans f.output),by omega,fun g hg z=>?_⟩,fun g hg z=>z2 g (by omega) (by rw [hA g hg]; exact z) (hne g hg)⟩
 have z':A g = 0:=by simpa using z
 refine (f2.block g (by omega) ?_).trans ((b.block g (by omega)).trans (f.block g hg z))
 rintro (y | y)
 ·exact y (by rw [hA g hg]; exact z')
 ·exact hne g hg y
theorem events_len (x:Ln):(events x).length ≤ 1000:=by
 unfold events
 cases (did0 x).2.2 <;> cases (did1 x).2.2 <;> simp
/-- Both have ticked. -/
theorem both_tick {w w2 w3:World} {A:Nat → Nat} {wb n:Nat} {ps:List PA} {p:PA} {x:Ln} {F G:Nat → Prop} {v:Value} (L:Lent w A wb ps n p x F G) (hv:OwnE w2 w.heap.size v (events x)) (hl:LineAt w2 (fun g=>Plus F w g ∧ v.ownBlock ≠ some g) p.xb (tick x)) (hf:Fr (fun g=>g = p.xb) w w2) (hd:DocAt w3 (Plus G w2) p.yb (tick x)) (hg:Fr G w2 w3) (ha:∀ g,G g → g < w.heap.size) :
  OwnE w3 w.heap.size v (events x) ∧ (∀ g,v.ownBlock = some g → w.heap.size ≤ g) ∧ ∃ A',WAt w3 A' wb ps (n + 1) ∧ Fr (fun g=>A g ≠ 0) w w3 ∧ (∀ g,g < w.heap.size → A' g = A g) ∧ ∀ g,v.ownBlock = some g → A' g = 0:=by
 have hb:∀ g,v.ownBlock = some g → w.heap.size ≤ g ∧ g < w2.heap.size:=fun g e=>World.ownsRow.lt hv g e
 refine ⟨hv.row fun g e hl=>hg.block g hl fun k=>by have:=ha g k; have:=hb g e; omega,fun g e=>(hb g e).1,?_⟩
 obtain ⟨A',h1,h2,h3,h4⟩:=L.back w2 w3 (tick x) (n + 1) (fun g=>v.ownBlock = some g) (hf.mono fun g e=>by rw [e]; exact L.l.own) hl hg hd hb (Nat.le_succ n) L.fit.tick
 exact ⟨A',h1,h2,h3,h4⟩
theorem ticked_w (wb:Nat) (A:Nat → Nat) (ps:List PA) (i:Nat) (p:PA) (n N:Nat) (ask:Bool) (w:World) (h:WAt w A wb ps n) (hp:ps[i]? = some p) (hN:N ≤ 64) (hn:n ≤ 900000000) :
  Calls Tryz.prog 34 #[.pointer (some ⟨wb,0,none⟩),.pointer (some ⟨p.pb,0,none⟩),.int .i64 N,.bool ask] w fun e w'=>e = .returned (.bool true) ∧ Nx A wb ps (n + 2 * N) w w':=by
 have HW:Hid (Nx A wb ps (n + 2 * 0) w w):=h.nx (Below.refl _ _)
 have HP:=hide hp
 clear h hp
 go_enter Tryz.func34,Tryz.ntmps34
 go_wp2
 go_loopw [9] (fun i wr=>∃ k:Nat,i = .int .i64 k ∧ k ≤ N ∧ Hid (Nx A wb ps (n + 2 * k) w wr)) (fun i _=>N - (intOf i).toNat)
 case atStart=>exact ⟨0,rfl,Nat.zero_le _,HW⟩
 case round =>
  generalize wr = W1 at *
  obtain ⟨k,rfl,hk,HR⟩:=hrel
  by_cases hlt:k < N
  ·have hlt':(k:Int) < (N:Int):=by omega
   obtain ⟨A1,h1,f1,z1⟩:=HR.out
   obtain ⟨x,F,G,L⟩:=h1.lend HP.out
   have c0:=(cells_at L.pr).1 0
   simp only [List.getElem?_toArray,List.getElem?_cons_zero] at c0
   have HL:=hide L
   have HGb:Hid (∀ g,G g → g < W1.heap.size):=fun g hg=>h1.bnd g (L.ga g hg)
   have HS:Hid (∀ w',Nx A1 wb ps (n + 2 * (k + 1)) W1 w' → Nx A wb ps (n + 2 * (k + 1)) w w'):=fun w' h=>⟨_,h.choose_spec.1,f1.trans h.choose_spec.2.1 (fun g hg e z=>e (z1 g hg z)),fun g hg z=>h.choose_spec.2.2 g (Nat.lt_of_lt_of_le hg f1.size) (z1 g hg z)⟩
   clear h1 f1 z1 L
   go_wp2_with fail
   refine (tick_line F p.xb x W1 HL.out.l HL.out.fit.g (by have:=HL.out.fit.c.a; omega) (by have:=HL.out.fit.c.b; omega)).mono ?_
   rintro e w2 ⟨v,rfl,hv,hl2,hf2⟩
   have hfF:Fr F W1 w2:=hf2.mono fun g e=>by rw [e]; exact HL.out.l.own
   have hp2:PairAt w2 p.pb p.xb p.yb:=(hfF.block _ HL.out.lt HL.out.fp).trans HL.out.pr
   have c1:=(cells_at hp2).1 1
   simp only [List.getElem?_toArray,List.getElem?_cons_succ,List.getElem?_cons_zero] at c1
   have HD2:Hid (DocAt w2 G p.yb x):=HL.out.d.keep hfF.size fun g hg hl=>hfF.block g hl fun k=>HL.out.fg g k hg
   obtain ⟨a,cap,rfl⟩:=hv.form
   have HV:=hide hv
   have HL2:=hide hl2
   have HF2:=hide hf2
   clear hv hl2 hf2 hfF hp2 c0
   go_wp2_with fail
   refine (rtick_line G p.yb x w2 HD2.out HL.out.fit.g HL.out.fit.r (by have:=HL.out.fit.c.a; omega) (by have:=HL.out.fit.c.b; omega) (by have:=HL.out.fit.c.t; omega)).mono ?_
   rintro e w3 ⟨u,rfl,hu,hd3,hf3⟩
   obtain ⟨hv3,hvb,A2,t1,t2,t3,t4⟩:=both_tick HL.out HV.out HL2.out HF2.out hd3 hf3 HGb.out
   obtain ⟨a',cap',rfl⟩:=hu.form
   have HU:=hide hu
   have HV3:=hide hv3
   have HVb:=hide hvb
   have T1:=hide t1
   have T2:=hide t2
   have T3:=hide t3
   have T4:=hide t4
   have hel:=events_len x
   have HEL:=hide hel
   clear hu hd3 hf3 hv3 hvb t1 t2 t3 t4 c1 HV HL2 HF2 HD2 hel
   generalize events x = l at *
   go_wp2_with fail
   refine (sameEvents_any _ _ _ _ l w3 HV3.out HU.out HEL.out).mono ?_
   rintro e w4 ⟨rfl,nq,hw4⟩
   have HB4:Hid (Below w3.heap.size w3 w4):=by rw [hw4]; exact below_drewN (Below.refl _ _) nq
   clear hw4
   go_wp2_with fail
   refine (keep_w wb A2 ps (n + 2 * k + 1) W1.heap.size _ l w4 (T1.out.below HB4.out) (HV3.out.row fun g _ hl=>HB4.out.block g hl) T4.out (by omega)).mono ?_
   rintro e w5 ⟨rfl,hk5⟩
   have HK:Hid (Nx A wb ps (n + 2 * (k + 1)) w w5):=HS.out w5 (tick_nx T2.out T3.out HB4.out hk5 HVb.out)
   clear hk5 HV3 HU HVb T1 T2 T3 T4 HB4 HEL HS HL HGb
   cases ask
   ·go_wp2
    go_roundw
    case rel=>exact ⟨k + 1,by go_num,by omega,HK⟩
    case measure=>simp [intOf]; omega
   ·obtain ⟨A5,h5,_⟩:=HK.out
    obtain ⟨x5,F5,G5,L5⟩:=h5.lend HP.out
    have HL5:=hide L5
    clear h5 L5
    go_wp2_with fail
    refine (looks_line p x5 F5 G5 w5 HL5.out.pr HL5.out.l HL5.out.d).mono ?_
    rintro e w6 ⟨rfl,hb6⟩
    have HK6:=hide (HK.out.below hb6)
    clear hb6
    go_wp2
    go_roundw
    case rel=>exact ⟨k + 1,by go_num,by omega,HK6⟩
    case measure=>simp [intOf]; omega
  ·have hlt':¬ (k:Int) < (N:Int):=by omega
   have hke:k = N:=by omega
   have HR':Hid (Nx A wb ps (n + 2 * N) w W1):=by rw [← hke]; exact HR.out
   clear hke hlt HR
   go_wp2
   go_ret
   exact ⟨rfl,HR'.out⟩
theorem open_more {w W0 w1 w2 W3 W9:World} {A:Nat → Nat} {wb xb yb:Nat} {vl vk v9:Value} {ps:List PA} {xs:List Ln} {ks:List (Nat × Nat)} {c:Cfg} (h:WC w A wb vl vk ps xs ks)
  (s0:w.heap.size ≤ W0.heap.size) (b01:W0.heap.size ≤ w1.heap.size) (b12:Below w1.heap.size w1 w2) (b2:Below w.heap.size w w2) (hl:LineAt w1 (New W0) xb (newL c)) (hd:DocAt w2 (New w1) yb (newL c))
  (h3:W3.heap.size = w2.heap.size + 2) (k3:Below w2.heap.size w2 W3) (p3:PairAt W3 w2.heap.size xb yb) (hg:W3.grownBy W9 vl.ownBlock)
  (ho:W9.ownsRow 0 35 1 v9 (ps.length + 1) (ps.map pSl ++ [.pointer (some ⟨w2.heap.size,0,none⟩)])) (hf:∀ g,v9.ownBlock = some g → vl.ownBlock = some g ∨ W3.heap.size ≤ g) :
  ∃ A',WC (W9.setCell ⟨wb,0,none⟩ v9) A' wb v9 vk (ps ++ [⟨w2.heap.size,xb,yb⟩]) (xs ++ [newL c]) ks ∧ Fr (fun g=>A g ≠ 0) w (W9.setCell ⟨wb,0,none⟩ v9) ∧ ∀ g,g < w.heap.size → A' g = A g:=by
 have s12:=b12.size
 have s2:=b2.size
 have s9:=hg.size
 have hlt:=h.lt
 have zs:(W9.setCell ⟨wb,0,none⟩ v9).heap.size = W9.heap.size:=by simp
 have hvl:∀ g,vl.ownBlock = some g → g < w.heap.size:=fun g e=>h.bnd g (by rw [h.c2 g e]; decide)
 have k9:∀ g,g < W3.heap.size → vl.ownBlock ≠ some g → g ≠ wb → (W9.setCell ⟨wb,0,none⟩ v9).heap[g]? = W3.heap[g]?:=fun g hgl ne nw=>(Below.heap_setCell _ _ _ _ nw).trans (hg.block g hgl (fun e=>ne e.symm))
 have kw:∀ g,g < w.heap.size → vl.ownBlock ≠ some g → g ≠ wb → (W9.setCell ⟨wb,0,none⟩ v9).heap[g]? = w.heap[g]?:=fun g hgl ne nw=>(k9 g (by omega) ne nw).trans ((k3.block g (by omega)).trans (b2.block g hgl))
 have hwb:vl.ownBlock ≠ some wb:=fun e=>by have:=h.c2 wb e; have:=h.c1; omega
 have h9b:W9.heap[wb]? = some (.cells #[vl,vk] 34 (0,0)):=(hg.block wb (by omega) (fun e=>hwb e.symm)).trans ((k3.block wb (by omega)).trans ((b2.block wb hlt).trans h.blk))
 have hne9:∀ g,v9.ownBlock = some g → g ≠ wb:=fun g e ew=>by
  rcases hf g e with y | y
  ·exact hwb (ew ▸ y)
  ·omega
 let A':Nat → Nat:=fun g=>if g < w.heap.size then A g else if g < W0.heap.size then 0 else if g < w1.heap.size then 6 + 2 * ps.length else if g < w2.heap.size then 7 + 2 * ps.length else if g = w2.heap.size then 5 else if v9.ownBlock = some g then 2 else 0
 have hA:∀ g,g < w.heap.size → A' g = A g:=fun g hg=>if_pos hg
 refine ⟨A',h.more (A':=A') (by omega) (Go.Joins.block_setCell (i:=0) h9b _) ?_ (fun g z=>hA g (h.bnd g z)) ?_ ?_ ?_ ?_ ?_ ?_ ?_,?_,hA⟩
 ·have:=row_keep ho (w':=W9.setCell ⟨wb,0,none⟩ v9) (fun g e _=>Below.heap_setCell _ _ _ _ (hne9 g e))
  unfold PRow
  rw [List.map_append,List.length_append]
  exact this
 ·intro g h0 h1 h2 hgl
  exact kw g hgl (fun e=>h2 (h.c2 g e)) (fun e=>h1 (by rw [e]; exact h.c1))
 ·intro g e
  rcases hf g e with y | y
  ·rw [hA g (hvl g y)]; exact h.c2 g y
  ·show (if g < w.heap.size then A g else if g < W0.heap.size then 0 else if g < w1.heap.size then 6 + 2 * ps.length else if g < w2.heap.size then 7 + 2 * ps.length else if g = w2.heap.size then 5 else if v9.ownBlock = some g then 2 else 0) = 2
   rw [if_neg (by omega),if_neg (by omega),if_neg (by omega),if_neg (by omega),if_neg (by omega),if_pos e]
 ·show PairAt _ w2.heap.size xb yb
  exact (k9 _ (by omega) (fun e=>by have:=hvl _ e; omega) (by omega)).trans p3
 ·show (if w2.heap.size < w.heap.size then A w2.heap.size else if w2.heap.size < W0.heap.size then 0 else if w2.heap.size < w1.heap.size then 6 + 2 * ps.length else if w2.heap.size < w2.heap.size then 7 + 2 * ps.length else if w2.heap.size = w2.heap.size then 5 else if v9.ownBlock = some w2.heap.size then 2 else 0) = 5
  rw [if_neg (by omega),if_neg (by omega),if_neg (by omega),if_neg (by omega),if_pos rfl]
 ·refine (hl.bound.keep (by omega) ?_).mono ?_
  ·rintro g ⟨y,gl⟩ _
   have y':W0.heap.size ≤ g:=y
   exact (k9 g (by omega) (fun e=>by have:=hvl _ e; omega) (by omega)).trans ((k3.block g (by omega)).trans (b12.block g gl))
  ·rintro g ⟨y,gl⟩
   have y':W0.heap.size ≤ g:=y
   show (if g < w.heap.size then A g else if g < W0.heap.size then 0 else if g < w1.heap.size then 6 + 2 * ps.length else if g < w2.heap.size then 7 + 2 * ps.length else if g = w2.heap.size then 5 else if v9.ownBlock = some g then 2 else 0) = _
   rw [if_neg (by omega),if_neg (by omega),if_pos gl]
 ·refine (hd.bound.keep (by omega) ?_).mono ?_
  ·rintro g ⟨y,gl⟩ _
   have y':w1.heap.size ≤ g:=y
   exact (k9 g (by omega) (fun e=>by have:=hvl _ e; omega) (by omega)).trans (k3.block g gl)
  ·rintro g ⟨y,gl⟩
   have y':w1.heap.size ≤ g:=y
   show (if g < w.heap.size then A g else if g < W0.heap.size then 0 else if g < w1.heap.size then 6 + 2 * ps.length else if g < w2.heap.size then 7 + 2 * ps.length else if g = w2.heap.size then 5 else if v9.ownBlock = some g then 2 else 0) = _
   rw [if_neg (by omega),if_neg (by omega),if_neg (by omega),if_pos gl]
 ·intro g z
  rw [zs]
  by_cases e:v9.ownBlock = some g
  ·exact (World.ownsRow.lt ho g e).2
  ·by_cases y:g < w2.heap.size + 1
   ·omega
   ·exfalso
    apply z
    show (if g < w.heap.size then A g else if g < W0.heap.size then 0 else if g < w1.heap.size then 6 + 2 * ps.length else if g < w2.heap.size then 7 + 2 * ps.length else if g = w2.heap.size then 5 else if v9.ownBlock = some g then 2 else 0) = 0
    rw [if_neg (by omega),if_neg (by omega),if_neg (by omega),if_neg (by omega),if_neg (by omega),if_neg e]
 ·refine ⟨?_,?_,?_,by omega,fun g hgl z=>?_⟩
  ·exact hg.os.trans (k3.os.trans b2.os)
  ·exact hg.tape.trans (k3.tape.trans b2.tape)
  ·exact hg.output.trans (k3.output.trans b2.output)
  ·have z':A g = 0:=by simpa using z
   exact kw g hgl (fun e=>by have:=h.c2 g e; omega) (fun e=>by have:=h.c1; rw [e] at z'; omega)
theorem PRow.form {w:World} {vl:Value} {ps:List PA} (h:PRow w vl ps):∃ a cap,vl = .slice a ps.length cap:=by
 rcases h.2 with ⟨rfl,h0⟩ | ⟨g,cap,cur,rfl,_⟩
 ·exact ⟨none,0,by rw [h0]⟩
 ·exact ⟨_,cap,rfl⟩
theorem PRow.cell {w:World} {vl:Value} {ps:List PA} {i:Nat} {p:PA} (h:PRow w vl ps) (hp:ps[i]? = some p):∃ g cap,vl = .slice (some ⟨g,0,none⟩) ps.length cap ∧ g < w.heap.size ∧ w.cell? ⟨g,i,none⟩ = some (pSl p):=by
 have hi:i < ps.length:=(List.getElem?_eq_some_iff.1 hp).1
 rcases h.2 with ⟨_,h0⟩ | ⟨g,cap,cur,rfl,_,hh,_⟩
 ·omega
 ·refine ⟨g,cap,rfl,lt_of_block hh,?_⟩
  rw [World.ownsRow.cellAt h i (by omega)]
  simp [hp]
theorem opened_w (wb:Nat) (A:Nat → Nat) (ps:List PA) (n:Nat) (c0 c1 c2 c3 c4 c5 c6 c7 c8 c9:Int) (w:World) (h:WAt w A wb ps n) (hn:ps.length ≤ 1000000000) :
  Calls Tryz.prog 10 #[.pointer (some ⟨wb,0,none⟩),.agg #[.int .i64 c0,.int .i64 c1,.int .i64 c2,.int .i64 c3,.int .i64 c4,.int .i64 c5,.int .i64 c6,.int .i64 c7,.int .i64 c8,.int .i64 c9]] w fun e w'=>e = .returned (.bool true) ∧ ∃ qs,qs.length ≤ ps.length + 1 ∧ Nx A wb qs n w w':=by
 have hlt:=h.lt
 have HW:=hide h
 have X0:CfgIAt (w.alloc (.cells #[.int .i64 c0,.int .i64 c1,.int .i64 c2,.int .i64 c3,.int .i64 c4,.int .i64 c5,.int .i64 c6,.int .i64 c7,.int .i64 c8,.int .i64 c9] 26)) w.heap.size c0 c1 c2 c3 c4 c5 c6 c7 c8 c9:=CfgI.at rfl _ _ _ _ _ _ _ _ _ _
 have hb0:=(Below.refl w.heap.size w).alloc (Nat.le_refl _) (.cells #[.int .i64 c0,.int .i64 c1,.int .i64 c2,.int .i64 c3,.int .i64 c4,.int .i64 c5,.int .i64 c6,.int .i64 c7,.int .i64 c8,.int .i64 c9] 26)
 have HB0:=hide hb0
 have HX0:=hide X0
 clear h X0 hb0
 cases hm:mayI c0 c1 c2 c3 c4 c5 c6 c7 c8 c9
 ·have HM:=hide hm
  clear hm
  go_enter Tryz.func10,Tryz.ntmps10
  go_wp2_with fail
  generalize w.alloc (.cells #[.int .i64 c0,.int .i64 c1,.int .i64 c2,.int .i64 c3,.int .i64 c4,.int .i64 c5,.int .i64 c6,.int .i64 c7,.int .i64 c8,.int .i64 c9] 26) = W0 at *
  refine (new_no c0 c1 c2 c3 c4 c5 c6 c7 c8 c9 _ HM.out).mono ?_
  rintro e w1 ⟨rfl,hb1⟩
  have HX1:=hide (HX0.out.below hb1)
  have HB1:=hide (below_step HB0.out hb1)
  obtain ⟨k0,k1,k2,k3,k4,k5,k6,k7,k8,k9⟩:=HX1.out.all
  clear hb1
  go_wp2_with fail
  refine (rnew_no c0 c1 c2 c3 c4 c5 c6 c7 c8 c9 _ HM.out).mono ?_
  rintro e w2 ⟨rfl,hb2⟩
  have HB2:=hide (below_step HB1.out hb2)
  clear hb2 k0 k1 k2 k3 k4 k5 k6 k7 k8 k9
  go_wp2
  go_ret
  exact ⟨rfl,ps,Nat.le_succ _,HW.out.nx HB2.out⟩
 ·obtain ⟨c,hc,rfl,rfl,rfl,rfl,rfl,rfl,rfl,rfl,rfl,rfl⟩:=may_cfg _ _ _ _ _ _ _ _ _ _ hm
  have HC:=hide hc
  clear hm hc
  go_enter Tryz.func10,Tryz.ntmps10
  go_wp2_with fail
  generalize w.alloc (.cells #[.int .i64 (c.check:Int),_,_,_,_,_,_,_,_,_] 26) = W0 at *
  refine (new_line c _ HC.out).mono ?_
  rintro e w1 ⟨xb,rfl,hxb,hl1,hb1⟩
  have HX1:=hide (HX0.out.below hb1)
  have HB1:=hide (below_step HB0.out hb1)
  have HL1:=hide hl1
  have HS1:Hid (W0.heap.size ≤ w1.heap.size):=hb1.size
  obtain ⟨k0,k1,k2,k3,k4,k5,k6,k7,k8,k9⟩:=HX1.out.all
  clear hb1 hl1 hxb
  go_wp2_with fail
  refine (rnew_line c _ HC.out).mono ?_
  rintro e w2 ⟨yb,rfl,hr2,hb2⟩
  have HB2:=hide (below_step HB1.out hb2)
  have HB12:=hide hb2
  have HR2:=hide hr2
  obtain ⟨vl,vk,xs,ks,hw,hf,hk⟩:=HW.out
  obtain ⟨al,cl,rfl⟩:=hw.rp.form
  have bw2:w2.heap[wb]? = some (.cells #[.slice al ps.length cl,vk] 34 (0,0)):=(HB2.out.block wb hlt).trans hw.blk
  have d0:w2.cell? ⟨wb,0,none⟩ = some (.slice al ps.length cl):=(cells_at bw2).1 0
  have hlt2:wb < w2.heap.size:=lt_of_block bw2
  have hne2:wb ≠ w2.heap.size:=by omega
  have HRW:Hid (PRow w2 (.slice al ps.length cl) ps):=row_keep hw.rp fun g e hl=>HB2.out.block g hl
  have HWC:=hide hw
  have HFt:=hide hf
  have HKs:=hide hk
  clear hb2 hr2 k0 k1 k2 k3 k4 k5 k6 k7 k8 k9 hw hf hk bw2
  obtain ⟨i0,hi,hz0,hz1,hz2⟩:=info_parts Tryz.infoPair
  have HWB:Hid ((Value.slice al ps.length cl).ownBlock ≠ some wb):=fun e=>by have:=HWC.out.c2 wb e; have:=HWC.out.c1; omega
  have hsz:∀ o:Obj,(w2.alloc o).heap.size = w2.heap.size + 1:=fun o=>by simp
  have hcn:Hid (∀ (o:Obj) j u,[Value.pointer (some ⟨w2.heap.size,0,none⟩)][j]? = some u → ((w2.alloc o).alloc (.cells #[.pointer (some ⟨w2.heap.size,0,none⟩)] 35)).cell? ((⟨w2.heap.size + 1,0,none⟩:Addr).add j) = some u):=fun o=>by rw [← hsz o]; exact cell_one_new _ _ _
  have HP3:Hid (PairAt ((w2.alloc (.cells #[.pointer (some ⟨xb,0,none⟩),.pointer (some ⟨yb,0,none⟩)] 49)).alloc (.cells #[.pointer (some ⟨w2.heap.size,0,none⟩)] 35)) w2.heap.size xb yb):=(Below.heap_alloc _ _ _ (by rw [hsz]; omega)).trans (heap_alloc_new w2 _)
  have HW3:Hid (((w2.alloc (.cells #[.pointer (some ⟨xb,0,none⟩),.pointer (some ⟨yb,0,none⟩)] 49)).alloc (.cells #[.pointer (some ⟨w2.heap.size,0,none⟩)] 35)).heap.size = w2.heap.size + 2):=by show (_:Nat) = _; simp
  have HK3:Hid (Below w2.heap.size w2 ((w2.alloc (.cells #[.pointer (some ⟨xb,0,none⟩),.pointer (some ⟨yb,0,none⟩)] 49)).alloc (.cells #[.pointer (some ⟨w2.heap.size,0,none⟩)] 35))):=Below.allocN (Below.allocN (Below.refl _ _) _) _
  clear hsz
  have HBW2:Hid (w2.heap[wb]? = some (.cells #[.slice al ps.length cl,vk] 34 (0,0))):=(HB2.out.block wb hlt).trans HWC.out.blk
  go_wp2_with (at_builtin; refine wpList_append_foot _ rfl (.tmp 35) (.tmp 40) 31 rfl 0 35 i0 _ 1 8 Tryz.underlying31 hi hz0 hz1 hz2 rfl (by decide) (.slice al ps.length cl) ps.length (ps.map pSl) rfl (World.ownsRow.alloc (World.ownsRow.alloc HRW.out _) _) ⟨w2.heap.size + 1,0,none⟩ 1 1 [.pointer (some ⟨w2.heap.size,0,none⟩)] rfl rfl (hcn.out _) (by intro u hu; simp at hu; subst hu; rfl) (by unfold maxLen; omega) (by omega) (Nat.zero_le _) ?_; intro v9 W9 ho9 hg9 hf9; have bw9:W9.heap[wb]? = some (.cells #[.slice al ps.length cl,vk] 34 (0,0)):=(hg9.block wb (Nat.lt_of_lt_of_le hlt2 HK3.out.size) (fun e=>HWB.out e.symm)).trans ((HK3.out.block wb hlt2).trans HBW2.out); have x1:=(cells_at bw9).1 0; have x2:=(cells_at bw9).2 0; obtain ⟨a9,c9,e9⟩:∃ a c,v9 = .slice a (ps.length + 1) c:=(by rcases ho9.2 with ⟨_,h0⟩ | ⟨g9,c9,cur9,h9,_⟩; (omega); exact ⟨_,_,h9⟩); subst e9; have HO9:=hide ho9; have HG9:=hide hg9; have HF9:=hide hf9; clear ho9 hg9 hf9 bw9)
  go_ret
  obtain ⟨A',r1,r2,r3⟩:=open_more HWC.out HB0.out.size HS1.out HB12.out HB2.out HL1.out HR2.out HW3.out HK3.out HP3.out HG9.out HO9.out HF9.out
  refine ⟨rfl,ps ++ [⟨w2.heap.size,xb,yb⟩],by simp,A',⟨_,vk,xs ++ [newL c],ks,r1,?_,HKs.out⟩,r2,fun g hg z=>by rw [r3 g hg]; exact z⟩
  intro x hx
  rcases List.mem_append.1 hx with y | y
  ·exact HFt.out x y
  ·rw [List.mem_singleton.1 y]; exact LFit.new HC.out n
end Go.Proofs.YtlbpjcphhocdkaaGreat
