/- The document's line: what a station hears. The document's line: a tick begins; what is on the line is cleared. The document's line: a message joins a queue. -/
import Derived.Test.YtlbpjcphhocdkaaGreatQ20
import Derived.Test.YtlbpjcphhocdkaaGreatQ18
import Derived.Test.YtlbpjcphhocdkaaGreatQ09
import Derived.Deep.RegionHeld3
import Derived.Test.YtlbpjcphhocdkaaGreatQ14
import Derived.Test.YtlbpjcphhocdkaaGreatQ12
import Derived.Test.YtlbpjcphhocdkaaGreatQ10
set_option maxRecDepth 1000000
set_option maxHeartbeats 16000000
namespace Go.Proofs.YtlbpjcphhocdkaaGreat
open Go.RowKit Go.Proofs.YtlbpjcphhocdkaaGreat.Mod Go.Proofs.YtlbpjcphhocdkaaGreat.Pst
theorem ans_rhrd {w:World} {B:Nat} {x:Value} {A:Ans} {c:Cfg} {l:List UInt8} (h:AnsAt w B x A) (hr:ReadsAs c.check l A):RHrd w (fun g=>B ≤ g) x A:=by
 have h0:=ans_hrd h hr
 cases A with
 | data hd ps cl la =>
  obtain ⟨hb,v,lb,e,hh,hd',ho⟩:=h
  have hbe:Blk.berr hd ps cl = 0:=by
   have h1:=hr
   obtain ⟨_,g⟩:=h1
   exact g.ok
  refine ⟨v,lb,?_,row_base ho,fun g hg=>(World.ownsRow.lt ho g hg).1,hd',hbe⟩
  rw [e,← hh]
 | none n =>
  refine ⟨h,?_⟩
  rcases hr with ⟨_,rfl,_⟩ | ⟨_,⟨h1,_⟩ | ⟨rfl,_⟩⟩ <;> omega
def RHeard (c:Cfg) (own other:List UInt8) (w:World) (e:Ending) (w':World):Prop :=
 ∃ x,e = .returned x ∧ RHrd w' (fun g=>w.heap.size ≤ g) x (if own ≠ [] then .none 0 else hear c other) ∧ Below w.heap.size w w'
def Th (g4 g5:Nat) (a:Act):Prop:=a.defers = [] ∧ a.tmps = List.toArray (gd a 0::gd a 1::gd a 2::gd a 3::.pointer (some ⟨g4,0,none⟩)::.pointer (some ⟨g5,0,none⟩)::gd a 6::gd a 7::gd a 8::gd a 9::gd a 10::gd a 11::gd a 12::gd a 13::gd a 14::gd a 15::gd a 16::gd a 17::gd a 18::gd a 19::gd a 20::gd a 21::gd a 22::gd a 23::gd a 24::gd a 25::gd a 26::gd a 27::gd a 28::gd a 29::gd a 30::gd a 31::gd a 32::gd a 33::[])
theorem Th.use {g4 g5:Nat} {a:Act} (h:Th g4 g5 a):∃ u:Nat → Value,a = { tmps:=List.toArray (u 0::u 1::u 2::u 3::.pointer (some ⟨g4,0,none⟩)::.pointer (some ⟨g5,0,none⟩)::u 6::u 7::u 8::u 9::u 10::u 11::u 12::u 13::u 14::u 15::u 16::u 17::u 18::u 19::u 20::u 21::u 22::u 23::u 24::u 25::u 26::u 27::u 28::u 29::u 30::u 31::u 32::u 33::[]),defers:=[] }:=⟨fun i=>a.tmps.getD i undef,by obtain ⟨h1,h2⟩:=h; cases a; simp only at h1 h2; subst h1; exact congrArg (fun t=>({ tmps:=t,defers:=[] }:Act)) h2⟩
/-- Behind Read. -/
def HerR (c:Cfg) (l:List UInt8) (w W:World) (a:Act) (V:World):Prop :=
 ∃ (g5:Nat) (A:Ans) (hd:ByteArray) (ap:Option Addr) (n cap:Nat) (cl la:Bool),Th w.heap.size g5 a ∧ HrdAt V g5 (.int .i64 (kindOf A:Nat)) (.string hd) (.slice ap n cap) (.bool cl) (.bool la) ∧ w.heap.size ≠ g5 ∧ Below W.heap.size W V ∧ RHrd V (fun g=>w.heap.size < g) (.agg #[.int .i64 (kindOf A:Nat),.string hd,.slice ap n cap,.bool cl,.bool la]) A ∧ ReadsAs c.check l A
theorem five_rhrd {w:World} {F:Nat → Prop} {x:Value} {A:Ans} {g:Nat} (h:RHrd w F x A) (hg:¬ F g) (u0 u1 u2 u3 u4:Value):RHrd (((((w.setCell ⟨g,0,none⟩ u0).setCell ⟨g,1,none⟩ u1).setCell ⟨g,2,none⟩ u2).setCell ⟨g,3,none⟩ u3).setCell ⟨g,4,none⟩ u4) F x A :=
 h.keep fun k hk hl=>five_keep _ _ _ _ _ _ _ _ (fun e=>hg (by rw [← e]; exact hk))
theorem her1 {c:Cfg} {l:List UInt8} {w W w2:World} {B:Nat} {A:Ans} {hd:ByteArray} {a:Option Addr} {n cap:Nat} {cl la:Bool} {ac:Act} (ht:Th w.heap.size W.heap.size ac) (hZ:HrdAt w2 W.heap.size (.int .i64 0) (.string ⟨#[]⟩) (.slice none 0 0) (.bool false) (.bool false)) (hbw:Below W.heap.size W w2) (hlt:w.heap.size < W.heap.size) (hA:AnsAt w2 B (.agg #[.int .i64 (kindOf A:Nat),.string hd,.slice a n cap,.bool cl,.bool la]) A) (hB:W.heap.size + 1 ≤ B) (hr:ReadsAs c.check l A) :
  HerR c l w W ac (((((w2.setCell ⟨W.heap.size,0,none⟩ (.int .i64 (kindOf A:Nat))).setCell ⟨W.heap.size,1,none⟩ (.string hd)).setCell ⟨W.heap.size,2,none⟩ (.slice a n cap)).setCell ⟨W.heap.size,3,none⟩ (.bool cl)).setCell ⟨W.heap.size,4,none⟩ (.bool la)):=by
 have h1:=(ans_rhrd hA hr).mono (G:=fun g=>W.heap.size < g) (fun g hg=>by have:B ≤ g:=hg; show W.heap.size < g; omega)
 have h2:=five_rhrd h1 (g:=W.heap.size) (by simp) (.int .i64 (kindOf A:Nat)) (.string hd) (.slice a n cap) (.bool cl) (.bool la)
 exact ⟨W.heap.size,A,hd,a,n,cap,cl,la,ht,HrdAt.all hZ,by omega,below_five hbw (Nat.le_refl _) _ _ _ _ _,h2.mono (fun g hg=>by have:W.heap.size < g:=hg; show w.heap.size < g; omega),hr⟩
theorem her2 {c:Cfg} {l:List UInt8} {w W w2:World} {B:Nat} {A:Ans} {hd:ByteArray} {a:Option Addr} {n cap:Nat} {cl la:Bool} {ac:Act} (ht:Th w.heap.size w2.heap.size ac) (hbw:Below W.heap.size W w2) (hlt:w.heap.size < W.heap.size) (hA:AnsAt w2 B (.agg #[.int .i64 (kindOf A:Nat),.string hd,.slice a n cap,.bool cl,.bool la]) A) (hB:W.heap.size ≤ B) (hr:ReadsAs c.check l A) :
  HerR c l w W ac (w2.alloc (.cells #[.int .i64 (kindOf A:Nat),.string hd,.slice a n cap,.bool cl,.bool la] 98)):=by
 have h1:=(ans_rhrd hA hr).mono (G:=fun g=>w.heap.size < g) (fun g hg=>by have:B ≤ g:=hg; show w.heap.size < g; omega)
 exact ⟨w2.heap.size,A,hd,a,n,cap,cl,la,ht,heap_alloc_new w2 _,by have:=hbw.size; omega,Below.allocN hbw _,h1.keep (fun g _ hl=>Below.heap_alloc _ _ _ hl),hr⟩
theorem k_at3 {K:Act → World → Prop} {a:Act} {W:World} (R:World → Prop) (h:R W) (k:∀ W',R W' → K a W'):K a W:=k W h
theorem hears_any (c:Cfg) (hc:c.Ok) (yb ob i j:Nat) (hij:i + j = 1) (own other:ByteArray) (w:World) (o1:w.cell? ⟨yb,12,none⟩ = some (.slice (some ⟨ob,0,none⟩) 2 2)) (o2:w.cell? ⟨ob,i,none⟩ = some (.string own)) (o3:w.cell? ⟨ob,j,none⟩ = some (.string other)) (o4:w.cell? ⟨yb,0,none⟩ = some (.int .i64 c.check)) (hs:other.size ≤ 1000) :
  Calls Tryz.prog 87 #[.pointer (some ⟨yb,0,none⟩),.int .i64 i] w fun e w'=>RHeard c own.data.toList other.data.toList w e w':=by
 have HCK:Hid ((c.check:Int) = 0 ∨ (c.check:Int) = 1):=by have:=hc.check; unfold Hid; omega
 have ly:=World.block_lt_of_cell? w _ o1
 have lo:=World.block_lt_of_cell? w _ o2
 simp only at ly lo
 clear hc
 go_enter Tryz.func87,Tryz.ntmps87
 iterate 6 go_step
 refine k_at3 (fun W=>Below w.heap.size w W ∧ HrdAt W w.heap.size (.int .i64 0) (.string ⟨#[]⟩) (.slice none 0 0) (.bool false) (.bool false)) ⟨(Below.refl _ _).alloc (Nat.le_refl _) _,HrdAt.at rfl _ _ _ _ _⟩ ?_
 rintro W ⟨hb,X0⟩
 obtain ⟨y0,y1,y2,y3,y4⟩:=X0.cell
 have f0:=X0.free 0
 have f1:=X0.free 1
 have f2:=X0.free 2
 have f3:=X0.free 3
 have f4:=X0.free 4
 have HX:=hide X0
 have HB:=hide hb
 have hlt:=lt_of_block X0
 have p1:=(hb.cell (p:=⟨yb,12,none⟩) ly).trans o1
 have p2:=(hb.cell (p:=⟨ob,i,none⟩) lo).trans o2
 have p3:=(hb.cell (p:=⟨ob,j,none⟩) lo).trans o3
 have p4:=(hb.cell (p:=⟨yb,0,none⟩) ly).trans o4
 have hkeep:∀ V,Below W.heap.size W V → V.cell? ⟨yb,12,none⟩ = some (.slice (some ⟨ob,0,none⟩) 2 2) ∧ V.cell? ⟨ob,j,none⟩ = some (.string other) ∧ V.cell? ⟨yb,0,none⟩ = some (.int .i64 c.check):=fun V hV=>by
  have hs:=hb.size
  exact ⟨(hV.cell (p:=⟨yb,12,none⟩) (by simp only; omega)).trans p1,(hV.cell (p:=⟨ob,j,none⟩) (by simp only; omega)).trans p3,(hV.cell (p:=⟨yb,0,none⟩) (by simp only; omega)).trans p4⟩
 have HKP:=hide hkeep
 have hw1:IntKind.i64.wrap ((1:Int) - (i:Int)) = (j:Int):=by rw [IntKind.wrap_i64]; omega
 have hj1:(j:Int) < 2:=by omega
 have hj2:(0:Int) ≤ (j:Int):=by omega
 have hi1:(i:Int) < 2:=by omega
 have hi2:(0:Int) ≤ (i:Int):=by omega
 clear hb X0 o1 o2 o3 o4 hkeep
 by_cases ho:own.data.toList = []
 ·have e1:own.toList = []:=by rw [ByteArray.toList_eq]; exact ho
  have HI:Hid ((if own.data.toList ≠ [] then (.none 0:Ans) else hear c other.data.toList) = hear c other.data.toList):=by simp [Hid,ho]
  clear ho
  go_wp2_with fail
  refine region_only (HerR c other.data.toList w W) ?_ ?_
  ·go_region_held3 (fun V=>V.cell? ⟨yb,12,none⟩ = some (.slice (some ⟨ob,0,none⟩) 2 2) ∧ V.cell? ⟨ob,j,none⟩ = some (.string other) ∧ V.cell? ⟨yb,0,none⟩ = some (.int .i64 c.check)) ((refine HKP.out _ ?_; repeat' (with_reducible (first | apply Below.drew | apply Below.allocN | (refine Below.setN ?_ (by omega) _ _) | exact hbw | exact Below.refl _ _))))
    (first | (go_at_call 48; refine (refRead_any other c.check _ (by omega) HCK.out).mono ?_; rintro e w2 ⟨A,x,rfl,hr,hA,hb2⟩; have HR:=hide hr; have HA0:=hide hA; have HB2:=hide hb2; obtain ⟨hd,a,n,cap,cl,la,hxe⟩:=(ans_rhrd hA hr).form; subst hxe; have hbw:Below W.heap.size W w2:=(by first | exact below_step (Below.allocN (Below.refl _ _) _) (below_drew_head hb2) | exact below_step (Below.allocN (Below.drew (Below.refl _ _)) _) hb2 | exact below_drew_head hb2 | exact hb2); (try (have Z2:HrdAt w2 W.heap.size (.int .i64 0) (.string ⟨#[]⟩) (.slice none 0 0) (.bool false) (.bool false):=(by first | exact (hb2.block _ (by simp)).trans (heap_alloc_new W _) | exact (hb2.block _ (by simp)).trans (heap_alloc_new W.drew _)); obtain ⟨t0,t1,t2,t3,t4⟩:=Z2.cell; have u0:=Z2.free 0; have u1:=Z2.free 1; have u2:=Z2.free 2; have u3:=Z2.free 3; have u4:=Z2.free 4; have HZ2:=hide Z2)); clear hr hA))
   ·exact her2 ⟨rfl,rfl⟩ hbw hlt HA0.out (by simp) HR.out
   ·exact her1 ⟨rfl,rfl⟩ HZ2.out hbw hlt HA0.out (by simp) HR.out
  rintro a'' V ⟨g5,A,hd,ap,n,cap,cl,la,htk,hz5,hne5,hbV,hrV,hrA⟩
  obtain ⟨u,rfl⟩:=htk.use
  have HA:Hid (hear c other.data.toList = A):=hear_is hrA
  have HRV:=hide hrV
  have HBV:=hide (below_step HB.out hbV)
  have HX2:=hide (HX.out.below hbV hlt)
  obtain ⟨t0,t1,t2,t3,t4⟩:=hz5.cell
  obtain ⟨z0,z1,z2,z3,z4⟩:=HX2.out.cell
  have s0:=HX2.out.free 0
  have s1:=HX2.out.free 1
  have s2:=HX2.out.free 2
  have s3:=HX2.out.free 3
  have s4:=HX2.out.free 4
  have hne6:=Ne.symm hne5
  clear htk hz5 hbV hrV hrA y0 y1 y2 y3 y4 f0 f1 f2 f3 f4 p1 p2 p3 p4
  generalize hK:kindOf A = K at *
  have HK:=hide hK
  clear hK
  go_wp2
  (try simp only [Exit.inBlock,Exit.then])
  refine bodyPost_ret (results_hrd rfl _ _ w.heap.size rfl (HrdAt.all HX2.out)) rfl ?_
  refine ⟨_,rfl,?_,below_five HBV.out (Nat.le_refl _) _ _ _ _ _⟩
  rw [HI.out,HA.out]
  exact (five_rhrd HRV.out (by simp) _ _ _ _ _).mono (fun g hg=>Nat.le_of_lt hg)
 ·have e1:own.toList.isEmpty = false:=by rw [ByteArray.toList_eq]; cases hl:own.data.toList with | nil=>exact absurd hl ho | cons _ _=>rfl
  have e1':¬ own.toList = []:=by rw [ByteArray.toList_eq]; exact ho
  have HI:Hid ((if own.data.toList ≠ [] then (.none 0:Ans) else hear c other.data.toList) = .none 0):=by simp [Hid,ho]
  clear ho
  go_wp2
  (try simp only [Exit.inBlock,Exit.then])
  refine bodyPost_ret (results_hrd rfl _ _ w.heap.size rfl (HrdAt.all HX.out)) rfl ?_
  refine ⟨_,rfl,?_,below_five HB.out (Nat.le_refl _) _ _ _ _ _⟩
  rw [HI.out]
  exact ⟨rfl,by omega⟩
section
variable {A:RAd} {w w':World} {F G:Nat → Prop} {c:Cfg} {now:Nat} {s:RS} {on:List UInt8}
theorem CfgL.setN {b k:Nat} {v:Value} (h:CfgL w b c) (hk:10 ≤ k):CfgL (w.setCell ⟨b,k,none⟩ v) b c:=h.keep fun i hi=>cell_nk (by omega)
theorem RAt.now' (h:RAt w F A c now s on) (x:Nat):RAt (w.setCell ⟨A.yb,10,none⟩ (.int .i64 x)) F A c x s on:=by
 obtain ⟨_,hv,hq⟩:=h.que
 obtain ⟨_,hg,hG⟩:=h.got
 have n3:=h.ok.h3
 exact ⟨h.cfg.setN (by omega),World.cell?_setCell_same _ _ _ h.now,(cell_nk (by omega)).trans h.lst,(cell_nk (by omega)).trans h.onl,(cell_ne h.ok.h1).trans h.ptr,(cell_ne h.ok.h2).trans h.on,(cell_ne n3).trans h.mode,(cell_ne n3).trans h.busy,⟨_,(cell_ne n3).trans hv,hq.setX h.ok.f1⟩,(cell_ne n3).trans h.joined,(cell_ne n3).trans h.began,(cell_ne n3).trans h.wait,(cell_ne n3).trans h.ended,(cell_ne n3).trans h.tries,(cell_ne n3).trans h.off,(cell_ne n3).trans h.free,(cell_ne n3).trans h.block,(cell_ne n3).trans h.count,⟨_,(cell_ne n3).trans hg,hG.setX h.ok.f1⟩,fun j=>by rw [World.frozen?_setCell]; exact h.zob j,fun j=>by rw [World.frozen?_setCell]; exact h.zsb j,h.ok⟩
/-- A new pair of cells for what is on the line. -/
theorem RAt.onl' (h:RAt w F A c now s on) (hF:∀ g,F g → g < w.heap.size) (hz:w.frozen? ⟨A.yb,12,none⟩ = false):RAt ((w.alloc (.cells #[.string ⟨#[]⟩,.string ⟨#[]⟩] 9)).setCell ⟨A.yb,12,none⟩ (.slice (some ⟨w.heap.size,0,none⟩) 2 2)) F { A with ob:=w.heap.size } c now s []:=by
 have _:=hz
 have k:=h.below ((Below.refl w.heap.size w).alloc (Nat.le_refl _) (.cells #[.string ⟨#[]⟩,.string ⟨#[]⟩] 9))
 have hnew:=heap_alloc_new w (.cells #[.string ⟨#[]⟩,.string ⟨#[]⟩] 9)
 generalize w.alloc (.cells #[.string ⟨#[]⟩,.string ⟨#[]⟩] 9) = W at *
 obtain ⟨_,hv,hq⟩:=k.que
 obtain ⟨_,hg,hG⟩:=k.got
 have n3:=k.ok.h3
 have l1:=h.lyb
 have l2:=h.lsl
 have l4:=h.lsb
 have hi:=h.ok.i
 have hyo:A.yb ≠ w.heap.size:=by omega
 have con:∀ j,j < 2 → W.cell? ⟨w.heap.size,j,none⟩ = some (.string ⟨#[]⟩):=by
  intro j hj
  simp only [World.cell?,hnew]
  rcases (show j = 0 ∨ j = 1 by omega) with rfl | rfl <;> rfl
 exact ⟨k.cfg.setN (by omega),(cell_nk (by omega)).trans k.now,(cell_nk (by omega)).trans k.lst,World.cell?_setCell_same _ _ _ k.onl,(cell_ne k.ok.h1).trans k.ptr,(cell_ne hyo).trans (con _ hi),(cell_ne n3).trans k.mode,(cell_ne n3).trans k.busy,⟨_,(cell_ne n3).trans hv,hq.setX k.ok.f1⟩,(cell_ne n3).trans k.joined,(cell_ne n3).trans k.began,(cell_ne n3).trans k.wait,(cell_ne n3).trans k.ended,(cell_ne n3).trans k.tries,(cell_ne n3).trans k.off,(cell_ne n3).trans k.free,(cell_ne n3).trans k.block,(cell_ne n3).trans k.count,⟨_,(cell_ne n3).trans hg,hG.setX k.ok.f1⟩,fun j=>by rw [World.frozen?_setCell]; exact Go.Joins.unfrozen_of_block hnew j,fun j=>by rw [World.frozen?_setCell]; exact k.zsb j,
  ⟨hi,h.ok.h1,hyo,h.ok.h3,by show A.sl ≠ w.heap.size; omega,h.ok.h5,by show w.heap.size ≠ A.sb; omega,h.ok.f1,h.ok.f2,fun z=>by have:w.heap.size < w.heap.size:=hF _ z; omega,h.ok.f4⟩⟩
end
def Tsm (sb:Nat) (a:Act):Prop:=a.defers = [] ∧ a.tmps = List.toArray (gd a 0::gd a 1::gd a 2::gd a 3::gd a 4::gd a 5::gd a 6::gd a 7::gd a 8::gd a 9::.pointer (some ⟨sb,0,none⟩)::gd a 11::gd a 12::gd a 13::gd a 14::gd a 15::gd a 16::gd a 17::gd a 18::gd a 19::gd a 20::gd a 21::gd a 22::gd a 23::gd a 24::gd a 25::gd a 26::gd a 27::gd a 28::gd a 29::gd a 30::gd a 31::gd a 32::gd a 33::gd a 34::gd a 35::gd a 36::gd a 37::gd a 38::gd a 39::gd a 40::gd a 41::gd a 42::gd a 43::gd a 44::gd a 45::gd a 46::gd a 47::gd a 48::gd a 49::gd a 50::gd a 51::gd a 52::gd a 53::gd a 54::gd a 55::gd a 56::gd a 57::gd a 58::gd a 59::gd a 60::gd a 61::gd a 62::gd a 63::gd a 64::gd a 65::gd a 66::gd a 67::gd a 68::gd a 69::gd a 70::gd a 71::gd a 72::gd a 73::gd a 74::gd a 75::gd a 76::gd a 77::gd a 78::gd a 79::gd a 80::gd a 81::gd a 82::gd a 83::gd a 84::gd a 85::gd a 86::gd a 87::gd a 88::gd a 89::gd a 90::gd a 91::gd a 92::[])
theorem Tsm.use {sb:Nat} {a:Act} (h:Tsm sb a):∃ u:Nat → Value,a = { tmps:=List.toArray (u 0::u 1::u 2::u 3::u 4::u 5::u 6::u 7::u 8::u 9::.pointer (some ⟨sb,0,none⟩)::u 11::u 12::u 13::u 14::u 15::u 16::u 17::u 18::u 19::u 20::u 21::u 22::u 23::u 24::u 25::u 26::u 27::u 28::u 29::u 30::u 31::u 32::u 33::u 34::u 35::u 36::u 37::u 38::u 39::u 40::u 41::u 42::u 43::u 44::u 45::u 46::u 47::u 48::u 49::u 50::u 51::u 52::u 53::u 54::u 55::u 56::u 57::u 58::u 59::u 60::u 61::u 62::u 63::u 64::u 65::u 66::u 67::u 68::u 69::u 70::u 71::u 72::u 73::u 74::u 75::u 76::u 77::u 78::u 79::u 80::u 81::u 82::u 83::u 84::u 85::u 86::u 87::u 88::u 89::u 90::u 91::u 92::[]),defers:=[] }:=⟨fun i=>a.tmps.getD i undef,by obtain ⟨h1,h2⟩:=h; cases a; simp only at h1 h2; subst h1; exact congrArg (fun t=>({ tmps:=t,defers:=[] }:Act)) h2⟩
/-- What leaves alone all blocks but those of messages. -/
theorem row_keepT {w w':World} {e:TypeId} {z:Nat} {v:Value} {n:Nat} {xs:List Value} (he:e ≠ 60) (h:w.ownsRow 0 e z v n xs) (hb:∀ g,v.ownBlock = some g → g < w.heap.size → (∀ cur,w.heap[g]? ≠ some (.cells cur 60 (0,0))) → w'.heap[g]? = w.heap[g]?):w'.ownsRow 0 e z v n xs:=by
 obtain ⟨h1,h2⟩:=h
 refine ⟨h1,?_⟩
 rcases h2 with h2 | ⟨g,cap,cur,hv,hB,hh,r⟩
 ·exact Or.inl h2
 ·refine Or.inr ⟨g,cap,cur,hv,hB,(hb g (by rw [hv]; rfl) (lt_of_block hh) (fun c' hc=>?_)).trans hh,r⟩
  rw [hh] at hc
  simp only [Option.some.injEq,Obj.cells.injEq] at hc
  exact he hc.2.1
theorem GAt.keepT {w w':World} {F:Nat → Prop} {v:Value} {l:List Bk} (h:GAt w F v l) (hb:∀ g,F g → g < w.heap.size → (∀ cur,w.heap[g]? ≠ some (.cells cur 60 (0,0))) → w'.heap[g]? = w.heap[g]?):GAt w' F v l:=by
 obtain ⟨vs,h0,h1,h2,h3⟩:=h
 refine ⟨vs,h0,row_keepT (by decide) h1 (fun g hg hl hc=>hb g (h2 g hg) hl hc),h2,fun k hk=>?_⟩
 obtain ⟨x,hx,hr,hf,hd⟩:=h3 k hk
 exact ⟨x,hx,row_keepT (by decide) hr (fun g hg hl hc=>hb g (hf g hg) hl hc),hf,hd⟩
/-- Behind the append: the station with one message more. -/
theorem sub_app {w W w':World} {F:Nat → Prop} {A:RAd} {c:Cfg} {now:Nat} {s:RS} {on:List UInt8} {m:Msg} {v v':Value} (h:RAt w F A c now s on) (hW:Below w.heap.size w W) (hv:w.cell? ⟨A.sb,2,none⟩ = some v) (hg:W.grownBy w' v.ownBlock) (hown:w'.ownsRow 0 60 3 v' (s.q.length + 1) (mcells s.q ++ msgCells m)) (hk:∀ g,v'.ownBlock = some g → v.ownBlock = some g ∨ W.heap.size ≤ g) :
  RAt (w'.setCell ⟨A.sb,2,none⟩ v') (Plus F w) A c now { s with q:=s.q ++ [m] } on ∧ Fr (fun g=>g = A.sb ∨ F g) w (w'.setCell ⟨A.sb,2,none⟩ v') ∧ w'.cell? ⟨A.sb,2,none⟩ = some v ∧ w'.frozen? ⟨A.sb,2,none⟩ = false:=by
 obtain ⟨u,hu,hQ⟩:=h.que
 rw [hv] at hu
 cases hu
 obtain ⟨t,ht,hT⟩:=h.got
 have hs:=hW.size
 have a1:=h.lyb
 have a2:=h.lsl
 have a3:=h.lob
 have a4:=h.lsb
 have old:∀ g,g < w.heap.size → v.ownBlock ≠ some g → w'.heap[g]? = w.heap[g]?:=fun g hl hn=>(hg.block g (by omega) (fun e=>hn e.symm)).trans (hW.block g hl)
 have nF:∀ g,g < w.heap.size → ¬ F g → w'.heap[g]? = w.heap[g]?:=fun g hl hn=>old g hl (fun e=>hn (hQ.2 g e))
 have b1:=nF _ a1 h.ok.f1
 have b2:=nF _ a2 h.ok.f2
 have b3:=nF _ a3 h.ok.f3
 have b4:=nF _ a4 h.ok.f4
 have hN:¬ Plus F w A.sb:=fun x=>x.elim h.ok.f4 (fun y=>by omega)
 have hokP:=h.okP (Nat.le_refl w.heap.size)
 have e1:∀ j,(w'.setCell ⟨A.sb,2,none⟩ v').cell? ⟨A.yb,j,none⟩ = w.cell? ⟨A.yb,j,none⟩:=fun j=>(cell_ne (Ne.symm h.ok.h3)).trans (World.cell?_of_block b1)
 have e2:∀ j,(w'.setCell ⟨A.sb,2,none⟩ v').cell? ⟨A.sl,j,none⟩ = w.cell? ⟨A.sl,j,none⟩:=fun j=>(cell_ne (Ne.symm h.ok.h5)).trans (World.cell?_of_block b2)
 have e3:∀ j,(w'.setCell ⟨A.sb,2,none⟩ v').cell? ⟨A.ob,j,none⟩ = w.cell? ⟨A.ob,j,none⟩:=fun j=>(cell_ne (Ne.symm h.ok.h6)).trans (World.cell?_of_block b3)
 have e4:∀ j,j ≠ 2 → (w'.setCell ⟨A.sb,2,none⟩ v').cell? ⟨A.sb,j,none⟩ = w.cell? ⟨A.sb,j,none⟩:=fun j hj=>(cell_nk (Ne.symm hj)).trans (World.cell?_of_block b4)
 have c2:w'.cell? ⟨A.sb,2,none⟩ = some v:=(World.cell?_of_block b4).trans hv
 have hq':QAt w' (Plus F w) v' (s.q ++ [m]):=by
  refine ⟨?_,fun g z=>?_⟩
  ·rw [mcells_append,List.length_append,show mcells [m] = msgCells m by simp [mcells]]
   exact hown
  ·rcases hk g z with h1 | h1
   ·exact Or.inl (hQ.2 g h1)
   ·exact Or.inr (by omega)
 have hg':GAt w' F t s.got:=hT.keepT (fun g hFg hl hc=>old g hl (fun e=>by
  rcases hQ.1.2 with ⟨e0,_⟩ | ⟨g0,cap,cur,e0,_,hh,_⟩
  ·rw [e0] at e; cases e
  ·rw [e0] at e
   have:g0 = g:=by simpa [Value.ownBlock] using e
   subst this
   exact hc _ hh))
 refine ⟨⟨h.cfg.keep fun i _=>e1 i,(e1 _).trans h.now,(e1 _).trans h.lst,(e1 _).trans h.onl,(e2 _).trans h.ptr,(e3 _).trans h.on,(e4 _ (by omega)).trans h.mode,(e4 _ (by omega)).trans h.busy,⟨v',World.cell?_setCell_same _ _ _ c2,hq'.setX hN⟩,(e4 _ (by omega)).trans h.joined,(e4 _ (by omega)).trans h.began,(e4 _ (by omega)).trans h.wait,(e4 _ (by omega)).trans h.ended,(e4 _ (by omega)).trans h.tries,(e4 _ (by omega)).trans h.off,(e4 _ (by omega)).trans h.free,(e4 _ (by omega)).trans h.block,(e4 _ (by omega)).trans h.count,⟨t,(e4 _ (by omega)).trans ht,(hg'.mono (fun _=>Or.inl)).setX hN⟩,fun j=>by rw [World.frozen?_setCell,World.frozen?_of_block b3]; exact h.zob j,fun j=>by rw [World.frozen?_setCell,World.frozen?_of_block b4]; exact h.zsb j,hokP⟩,⟨hg.os.trans hW.os,hg.tape.trans hW.tape,hg.output.trans hW.output,by have:=hg.size; simp; omega,fun k hk hn=>?_⟩,c2,(World.frozen?_of_block b4).trans (h.zsb 2)⟩
 rw [Below.heap_setCell _ _ _ _ (fun e=>hn (Or.inl e))]
 exact nF k hk (fun x=>hn (Or.inr x))
def M3S (w:World) (g:Nat) (hd tx:ByteArray) (cl:Bool):Prop:=w.heap[g]? = some (.cells #[.string hd,.string tx,.bool cl] 60 (0,0))
theorem M3S.cells {w:World} {g:Nat} {hd tx:ByteArray} {cl:Bool} (k:M3S w g hd tx cl):w.cell? ⟨g,0,none⟩ = some (.string hd) ∧ w.cell? ⟨g,1,none⟩ = some (.string tx) ∧ w.cell? ⟨g,2,none⟩ = some (.bool cl):=by unfold M3S at k; simp [World.cell?,k]
theorem wp_atS {P:Program} {f:Nat} {args:Array Value} {W:World} {Q:Ending → World → Prop} (R:World → Prop) (h:R W) (k:∀ W',R W' → Calls P f args W' Q):Calls P f args W Q:=k W h
theorem row_formS {w:World} {B:Nat} {e:TypeId} {z n:Nat} {v:Value} {xs:List Value} (h:w.ownsRow B e z v n xs):∃ a cap,v = .slice a n cap:=by
 rcases h.2 with ⟨rfl,h0⟩ | ⟨g,cap,cur,rfl,_⟩
 ·exact ⟨none,0,by rw [h0]⟩
 ·exact ⟨_,cap,rfl⟩
def SubR (w:World) (F:Nat → Prop) (A:RAd) (c:Cfg) (now:Nat) (s:RS) (on:List UInt8) (m:Msg) (a:Act) (W:World):Prop:=Tsm A.sb a ∧ RAt W (Plus F w) A c now { s with q:=s.q ++ [m] } on ∧ Fr (fun g=>g = A.sb ∨ F g) w W
theorem rsubmit_ok (F:Nat → Prop) (A:RAd) (c:Cfg) (now:Nat) (s:RS) (on:List UInt8) (m:Msg) (w:World) (h:RAt w F A c now s on) (hF:∀ g,F g → g < w.heap.size) (hm:MsgFit m) (hr:s.q.length < c.queue) (hq:c.queue ≤ 8) (hj:s.joined ≤ 100000000000000) :
  Calls Tryz.prog 33 #[.pointer (some ⟨A.yb,0,none⟩),.int .i64 A.i,msgV m] w fun e w'=>e = .returned (.tuple #[.int .i64 (s.joined + 1:Nat),.int .i64 0]) ∧ RAt w' (Plus F w) A c now { s with q:=s.q ++ [m],joined:=s.joined + 1 } on ∧ Fr (fun g=>g = A.sb ∨ F g) w w':=by
 have hi:=h.ok.i
 have lsb:=h.lsb
 have lyb:=h.lyb
 have lsl:=h.lsl
 have g1:¬ (A.i:Int) < 0:=by omega
 have g2:¬ (1:Int) < (A.i:Int):=by omega
 have HH:=hide (h)
 have HF:=hide hF
 have hh8:=Blk.headOk_le hm.1
 have hhc:Blk.hasCtl m.head = false:=by have:=hm.1; unfold Blk.headOk at this; simp only [Bool.and_eq_true,Bool.not_eq_true'] at this; exact this.2
 have ht2:=hm.2.1
 have hct:=hm.2.2
 obtain ⟨hd,HHD,ehd⟩:∃ x:ByteArray,Hid (x.data.toList = m.head) ∧ x = ⟨m.head.toArray⟩:=⟨_,by simp [Hid],rfl⟩
 obtain ⟨tx,HTX,etx⟩:∃ x:ByteArray,Hid (x.data.toList = m.text) ∧ x = ⟨m.text.toArray⟩:=⟨_,by simp [Hid],rfl⟩
 have hs1:hd.size ≤ 8:=by rw [ehd]; exact hh8
 have hs2:tx.size ≤ 200:=by rw [etx]; exact ht2
 have HEH:=hide ehd
 have HET:=hide etx
 have HC1:Hid ((!Blk.hasCtl hd.data.toList) = true):=by rw [Hid,HHD.out,hhc]; rfl
 have HCT:Hid (m.clear = true ∨ (!Blk.hasCtl tx.data.toList) = true):=by rw [Hid,HTX.out]; rcases hct with h | h; exact Or.inl h; exact Or.inr (by rw [h]; rfl)
 have hg8:¬ (8:Int) < (hd.size:Int):=by omega
 have hg9:¬ (200:Int) < (tx.size:Int):=by omega
 obtain ⟨v,c2,hv⟩:=h.que
 obtain ⟨a,cap,rfl⟩:=hv.form
 have HV:=hide hv
 clear h hF hv hm hh8 hhc ht2 hct ehd etx
 unfold msgV
 rw [← HEH.out,← HET.out]
 have hr':decide (c.queue ≤ s.q.length) = false:=by simp; omega
 cases hcl:m.clear
 ·rcases HCT.out with hh | hh
  ·rw [hcl] at hh; cases hh
  have HC2:=hide hh
  clear hh
  go_enter Tryz.func33,Tryz.ntmps33
  go_wp2_with fail
  refine wp_atS (fun W=>Below w.heap.size w W ∧ M3S W w.heap.size hd tx false ∧ w.heap.size < W.heap.size) ⟨(Below.refl _ _).alloc (Nat.le_refl _) _,heap_alloc_new w _,by simp⟩ ?_
  rintro W ⟨hb,M0,hz⟩
  obtain ⟨m0,m1,m2⟩:=M3S.cells M0
  have HB:=hide hb
  have HM:=hide M0
  clear hb M0
  refine (plain_any hd W (by omega)).mono ?_
  rintro e w1 ⟨rfl,n1,rfl⟩
  rw [HC1.out]
  go_wp2_with fail
  refine (plain_any tx _ (by omega)).mono ?_
  rintro e w2 ⟨rfl,n2,rfl⟩
  rw [HC2.out]
  have d1:=(HB.out.cell (p:=⟨A.yb,11,none⟩) lyb).trans HH.out.lst
  have d2:=(HB.out.cell (p:=⟨A.sl,A.i,none⟩) lsl).trans HH.out.ptr
  have d3:=(HB.out.cell (p:=⟨A.sb,2,none⟩) lsb).trans c2
  have d4:=(HB.out.cell (p:=⟨A.yb,3,none⟩) lyb).trans HH.out.cfg.2.2.2.1
  go_wp2_with fail
  go_quiet (fail)
  refine exit_at (fun V=>Below w.heap.size w V ∧ M3S V w.heap.size hd tx false) ⟨below_drewN (below_drewN HB.out (n1 + n2)) nq,HM.out⟩ ?_
  clear d1 d2 d3 d4 HB HM m0 m1 m2
  rintro W1 ⟨hb,M0⟩
  have d1:=(hb.cell (p:=⟨A.yb,11,none⟩) lyb).trans HH.out.lst
  have d2:=(hb.cell (p:=⟨A.sl,A.i,none⟩) lsl).trans HH.out.ptr
  have d3:=(hb.cell (p:=⟨A.sb,2,none⟩) lsb).trans c2
  obtain ⟨m0,m1,m2⟩:=M3S.cells M0
  have hsz:=hb.size
  have HB:=hide hb
  have HQ1:=hide (HV.out.keep (w':=W1) (fun g _ hg=>hb.block g hg))
  have d5:∀ o,(W1.alloc o).cell? ⟨A.sb,2,none⟩ = some (.slice a s.q.length cap):=fun o=>(Below.cell (p:=⟨A.sb,2,none⟩) ((Below.refl _ W1).alloc (Nat.le_refl _) o) (by simp only; omega)).trans d3
  have m3:∀ o,(W1.alloc o).cell? ⟨w.heap.size,0,none⟩ = some (.string hd):=fun o=>(Below.cell (p:=⟨w.heap.size,0,none⟩) ((Below.refl _ W1).alloc (Nat.le_refl _) o) (World.block_lt_of_cell? W1 _ m0)).trans m0
  obtain ⟨i0,hi0,hz0,hz1,hz2⟩:=info_parts Tryz.infoMsg
  clear hb M0
  go_wp2_with fail
  refine region_only (SubR w F A c now s on m) ?_ ?_
  ·go_region_law (refine step_append_foot rfl (.tmp 75) (.tmp 77) 65 rfl 0 60 i0 _ 3 40 Tryz.underlying65 hi0 hz0 hz1 hz2 rfl (by decide) (.slice a s.q.length cap) s.q.length (mcells s.q) (by simp [Act.eval]) (World.ownsRow.alloc HQ1.out.1 _) ⟨W1.heap.size,0,none⟩ 1 1 [.string hd,.string tx,.bool false] (by simp [Act.eval]) rfl (cells_new _ _ _) (by intro u hu; simp at hu; rcases hu with rfl | rfl | rfl <;> rfl) (by unfold maxLen; omega) (by omega) (Nat.zero_le _) ?_; intro v' w' hown' hgr' hbk'; have hMC:msgCells m = [.string hd,.string tx,.bool false]:=(by rw [HEH.out,HET.out,← hcl]; rfl); rw [← hMC] at hown'; obtain ⟨J1,J2,J3,J4⟩:=sub_app HH.out (Below.drew (Below.allocN HB.out _)) c2 hgr' hown' hbk'; obtain ⟨a',cap',rfl⟩:=row_formS hown')
   all_goals (exact ⟨⟨rfl,rfl⟩,J1,J2⟩)
  rintro a'' W2 ⟨htk,hst,hfr⟩
  obtain ⟨u,rfl⟩:=htk.use
  have e3:=hst.joined
  have z3:=hst.zsb 3
  have HST:=hide (hst.joined' (s.joined + 1))
  have HFR:=hide hfr
  clear htk hst hfr d1 d2 d3 d5 m0 m1 m2 m3 c2
  go_wp2
  go_ret2
  refine ⟨rfl,HST.out,⟨HFR.out.os,HFR.out.tape,HFR.out.output,by simpa using HFR.out.size,fun k hk hn=>?_⟩⟩
  rw [Below.heap_setCell _ _ _ _ (fun e=>hn (Or.inl e))]
  exact HFR.out.block k hk hn
 ·go_enter Tryz.func33,Tryz.ntmps33
  go_wp2_with fail
  refine wp_atS (fun W=>Below w.heap.size w W ∧ M3S W w.heap.size hd tx true ∧ w.heap.size < W.heap.size) ⟨(Below.refl _ _).alloc (Nat.le_refl _) _,heap_alloc_new w _,by simp⟩ ?_
  rintro W ⟨hb,M0,hz⟩
  obtain ⟨m0,m1,m2⟩:=M3S.cells M0
  have HB:=hide hb
  have HM:=hide M0
  clear hb M0
  refine (plain_any hd W (by omega)).mono ?_
  rintro e w1 ⟨rfl,n1,rfl⟩
  rw [HC1.out]
  go_wp2_with fail
  refine (plain_any tx _ (by omega)).mono ?_
  rintro e w2 ⟨rfl,n2,rfl⟩
  generalize (!Blk.hasCtl tx.data.toList) = pb at *
  have d1:=(HB.out.cell (p:=⟨A.yb,11,none⟩) lyb).trans HH.out.lst
  have d2:=(HB.out.cell (p:=⟨A.sl,A.i,none⟩) lsl).trans HH.out.ptr
  have d3:=(HB.out.cell (p:=⟨A.sb,2,none⟩) lsb).trans c2
  have d4:=(HB.out.cell (p:=⟨A.yb,3,none⟩) lyb).trans HH.out.cfg.2.2.2.1
  go_wp2_with fail
  go_quiet (fail)
  refine exit_at (fun V=>Below w.heap.size w V ∧ M3S V w.heap.size hd tx true) ⟨below_drewN (below_drewN HB.out (n1 + n2)) nq,HM.out⟩ ?_
  clear d1 d2 d3 d4 HB HM m0 m1 m2
  rintro W1 ⟨hb,M0⟩
  have d1:=(hb.cell (p:=⟨A.yb,11,none⟩) lyb).trans HH.out.lst
  have d2:=(hb.cell (p:=⟨A.sl,A.i,none⟩) lsl).trans HH.out.ptr
  have d3:=(hb.cell (p:=⟨A.sb,2,none⟩) lsb).trans c2
  obtain ⟨m0,m1,m2⟩:=M3S.cells M0
  have hsz:=hb.size
  have HB:=hide hb
  have HQ1:=hide (HV.out.keep (w':=W1) (fun g _ hg=>hb.block g hg))
  have d5:∀ o,(W1.alloc o).cell? ⟨A.sb,2,none⟩ = some (.slice a s.q.length cap):=fun o=>(Below.cell (p:=⟨A.sb,2,none⟩) ((Below.refl _ W1).alloc (Nat.le_refl _) o) (by simp only; omega)).trans d3
  have m3:∀ o,(W1.alloc o).cell? ⟨w.heap.size,0,none⟩ = some (.string hd):=fun o=>(Below.cell (p:=⟨w.heap.size,0,none⟩) ((Below.refl _ W1).alloc (Nat.le_refl _) o) (World.block_lt_of_cell? W1 _ m0)).trans m0
  obtain ⟨i0,hi0,hz0,hz1,hz2⟩:=info_parts Tryz.infoMsg
  clear hb M0
  go_wp2_with fail
  refine region_only (SubR w F A c now s on m) ?_ ?_
  ·go_region_law (refine step_append_foot rfl (.tmp 75) (.tmp 77) 65 rfl 0 60 i0 _ 3 40 Tryz.underlying65 hi0 hz0 hz1 hz2 rfl (by decide) (.slice a s.q.length cap) s.q.length (mcells s.q) (by simp [Act.eval]) (World.ownsRow.alloc HQ1.out.1 _) ⟨W1.heap.size,0,none⟩ 1 1 [.string hd,.string tx,.bool true] (by simp [Act.eval]) rfl (cells_new _ _ _) (by intro u hu; simp at hu; rcases hu with rfl | rfl | rfl <;> rfl) (by unfold maxLen; omega) (by omega) (Nat.zero_le _) ?_; intro v' w' hown' hgr' hbk'; have hMC:msgCells m = [.string hd,.string tx,.bool true]:=(by rw [HEH.out,HET.out,← hcl]; rfl); rw [← hMC] at hown'; obtain ⟨J1,J2,J3,J4⟩:=sub_app HH.out (Below.drew (Below.allocN HB.out _)) c2 hgr' hown' hbk'; obtain ⟨a',cap',rfl⟩:=row_formS hown')
   all_goals (exact ⟨⟨rfl,rfl⟩,J1,J2⟩)
  rintro a'' W2 ⟨htk,hst,hfr⟩
  obtain ⟨u,rfl⟩:=htk.use
  have e3:=hst.joined
  have z3:=hst.zsb 3
  have HST:=hide (hst.joined' (s.joined + 1))
  have HFR:=hide hfr
  clear htk hst hfr d1 d2 d3 d5 m0 m1 m2 m3 c2
  go_wp2
  go_ret2
  refine ⟨rfl,HST.out,⟨HFR.out.os,HFR.out.tape,HFR.out.output,by simpa using HFR.out.size,fun k hk hn=>?_⟩⟩
  rw [Below.heap_setCell _ _ _ _ (fun e=>hn (Or.inl e))]
  exact HFR.out.block k hk hn
end Go.Proofs.YtlbpjcphhocdkaaGreat
