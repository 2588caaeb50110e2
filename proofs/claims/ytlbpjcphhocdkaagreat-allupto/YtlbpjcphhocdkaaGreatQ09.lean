/- What a station hears. The line in memory; a tick goes by. Of no program: append, and where its answer lies: in the old block, or in a new one. A tick goes by: what is heard. -/
import Derived.Test.YtlbpjcphhocdkaaGreatQ08
import Derived.Test.YtlbpjcphhocdkaaGreatQ01
import Derived.ArgAppend
set_option maxRecDepth 1000000
set_option maxHeartbeats 16000000
namespace Go.Proofs.YtlbpjcphhocdkaaGreat
open Go.RowKit Go.Proofs.YtlbpjcphhocdkaaGreat.Mod Go.Proofs.YtlbpjcphhocdkaaGreat.Pst
/-- What is heard,in fresh memory. -/
def HeardPost (c:Cfg) (own other:List UInt8) (w:World) (e:Ending) (w':World):Prop :=
 ∃ x,e = .returned x ∧ (∀ b,b < w.heap.size → HrdV w' b x (if own ≠ [] then .none 0 else hear c other)) ∧ Below w.heap.size w w'
theorem hear_none (c:Cfg):hear c [] = .none 0:=by
 refine hear_is (Or.inr ⟨rfl,Or.inr ⟨rfl,fun m h1 h2 e=>?_⟩⟩)
 have:=congrArg List.length e
 simp [Prs.restL] at this
theorem ans_hrd {w:World} {B:Nat} {x:Value} {A:Ans} {k:Int} {l:List UInt8} (h:AnsAt w B x A) (hr:ReadsAs k l A):∀ b,b < B → HrdV w b x A:=by
 intro b hb
 cases A with
 | data h1 ps1 c1 t1 =>
  obtain ⟨hd,v,lb,rfl,e1,e2,own⟩:=h
  obtain ⟨a,cap,rfl,ht⟩:=own.texts
  refine ⟨a,cap,lb,?_,ht,?_,e2,hr.2.ok⟩
  ·have:hd = ⟨h1.toArray⟩:=by rw [← e1]
   rw [this]
  ·intro g of e _
   have:=(World.ownsRow.lt own g (by rw [e]; rfl)).1
   omega
 | none n =>
  refine ⟨h,?_⟩
  rcases hr with ⟨_,rfl,_⟩ | ⟨_,⟨h1,_⟩ | ⟨rfl,_⟩⟩ <;> omega
theorem HrdV.both {w w':World} {b g0:Nat} {x:Value} {A:Ans} (h:HrdV w b x A) (h2:HrdV w g0 x A) (hk:∀ g,g ≠ g0 → g < w.heap.size → w'.heap[g]? = w.heap[g]?):HrdV w' b x A:=by
 cases A with
 | data h1 ps1 c1 t1 =>
  obtain ⟨a,cap,lb,e1,e2,e3,e4⟩:=h
  obtain ⟨a',cap',lb',e1',_,e3',_⟩:=h2
  rw [e1] at e1'
  simp only [Value.agg.injEq,Array.mk.injEq,List.cons.injEq,Value.slice.injEq,true_and,and_true] at e1'
  obtain ⟨rfl,hl,_⟩:=e1'
  refine ⟨a,cap,lb,e1,?_,e3,e4⟩
  rcases e2 with e2 | ⟨g,of,e,e2⟩
  ·exact Or.inl e2
  ·by_cases hlb:lb = []
   ·exact Or.inl hlb
   ·refine Or.inr ⟨g,of,e,fun i hi=>?_⟩
    have hc:=e2 i hi
    rw [← hc]
    refine World.cell?_of_block (hk g (e3' g of e ?_) (World.block_lt_of_cell? w _ hc))
    intro h0
    rw [h0] at hl
    exact hlb (List.eq_nil_of_length_eq_zero hl)
 | none n=>exact h
set_option maxRecDepth 1000000 in
theorem heard_any (c:Cfg) (hc:c.Ok) (own other:ByteArray) (w:World) (hs:other.size ≤ 140737488352000) :
  Calls Tryz.prog 85 #[.string own,.string other,.int .i64 c.check] w fun e w'=>HeardPost c own.data.toList other.data.toList w e w':=by
 have HCK:Hid ((c.check:Int) = 0 ∨ (c.check:Int) = 1):=by have:=hc.check; unfold Hid; omega
 clear hc
 go_enter Tryz.func85,Tryz.ntmps85
 go_step
 go_step
 go_step
 go_step
 go_step
 go_step
 refine list_at (fun W=>Below w.heap.size w W ∧ HrdAt W w.heap.size (.int .i64 0) (.string ⟨#[]⟩) (.slice none 0 0) (.bool false) (.bool false)) ⟨(Below.refl _ _).alloc (Nat.le_refl _) _,HrdAt.at rfl _ _ _ _ _⟩ ?_
 rintro W ⟨hb,X0⟩
 obtain ⟨y0,y1,y2,y3,y4⟩:=X0.cell
 have f0:=X0.free 0
 have f1:=X0.free 1
 have f2:=X0.free 2
 have f3:=X0.free 3
 have f4:=X0.free 4
 have HX:=hide X0
 have HB:=hide hb
 have hlt:=lt_of_block X0
 clear hb X0
 by_cases ho:own.data.toList = []
 ·have e1:own.toList = []:=by rw [ByteArray.toList_eq]; exact ho
  have HI:Hid ((if own.data.toList ≠ [] then (.none 0:Ans) else hear c other.data.toList) = hear c other.data.toList):=by simp [Hid,ho]
  clear ho
  by_cases ht:other.data.toList = []
  ·have e2:other.toList = []:=by rw [ByteArray.toList_eq]; exact ht
   have HH:Hid (hear c other.data.toList = .none 0):=by rw [Hid,ht,hear_none]
   clear ht
   go_wp2
   (try simp only [Exit.inBlock,Exit.then])
   refine bodyPost_ret (results_hrd rfl _ _ w.heap.size rfl (HrdAt.all HX.out)) rfl ?_
   refine ⟨_,rfl,fun b hb=>?_,below_five HB.out (Nat.le_refl _) _ _ _ _ _⟩
   rw [HI.out,HH.out]
   exact ⟨rfl,by omega⟩
  ·have e2:other.toList.isEmpty = false:=by rw [ByteArray.toList_eq]; cases hl:other.data.toList with | nil=>exact absurd hl ht | cons _ _=>rfl
   clear ht
   go_wp2_with fail
   refine (read_any other c.check W hs HCK.out).mono ?_
   rintro e w2 ⟨A,x,rfl,hr,hA,hb2⟩
   have HA:Hid (hear c other.data.toList = A):=hear_is hr
   have HV:=hide (ans_hrd hA hr)
   obtain ⟨hd,a,n,cap,cl,la,hxe⟩:=(HV.out 0 (by omega)).form
   subst hxe
   have X2:=HX.out.below hb2 hlt
   have XX:∀ x,HrdAt (w2.alloc x) w.heap.size (.int .i64 0) (.string ⟨#[]⟩) (.slice none 0 0) (.bool false) (.bool false):=fun x=>X2.alloc x
   have z0:∀ x,(w2.alloc x).cell? ⟨w.heap.size,0,none⟩ = some (.int .i64 0):=fun x=>(XX x).cell.1
   have z1:∀ x,(w2.alloc x).cell? ⟨w.heap.size,1,none⟩ = some (.string ⟨#[]⟩):=fun x=>(XX x).cell.2.1
   have z2:∀ x,(w2.alloc x).cell? ⟨w.heap.size,2,none⟩ = some (.slice none 0 0):=fun x=>(XX x).cell.2.2.1
   have z3:∀ x,(w2.alloc x).cell? ⟨w.heap.size,3,none⟩ = some (.bool false):=fun x=>(XX x).cell.2.2.2.1
   have z4:∀ x,(w2.alloc x).cell? ⟨w.heap.size,4,none⟩ = some (.bool false):=fun x=>(XX x).cell.2.2.2.2
   have g0:∀ x,(w2.alloc x).frozen? ⟨w.heap.size,0,none⟩ = false:=fun x=>(XX x).free 0
   have g1:∀ x,(w2.alloc x).frozen? ⟨w.heap.size,1,none⟩ = false:=fun x=>(XX x).free 1
   have g2:∀ x,(w2.alloc x).frozen? ⟨w.heap.size,2,none⟩ = false:=fun x=>(XX x).free 2
   have g3:∀ x,(w2.alloc x).frozen? ⟨w.heap.size,3,none⟩ = false:=fun x=>(XX x).free 3
   have g4:∀ x,(w2.alloc x).frozen? ⟨w.heap.size,4,none⟩ = false:=fun x=>(XX x).free 4
   clear XX
   have HX2:=hide X2
   have HB2:=hide (below_step HB.out hb2)
   have hne:w.heap.size ≠ w2.heap.size:=by have:=hb2.size; omega
   clear hr hA X2 y0 y1 y2 y3 y4 f0 f1 f2 f3 f4 hb2
   generalize (kindOf A) = K at *
   go_wp2
   (try simp only [Exit.inBlock,Exit.then])
   refine bodyPost_ret (results_hrd rfl _ _ w.heap.size rfl (HrdAt.all (HX2.out.alloc _))) rfl ?_
   refine ⟨_,rfl,fun b hb=>?_,below_five (Below.allocN HB2.out _) (Nat.le_refl _) _ _ _ _ _⟩
   rw [HI.out,HA.out]
   refine HrdV.both (HV.out b (by omega)) (HV.out w.heap.size hlt) fun g hg hl=>?_
   rw [five_keep _ _ _ _ _ _ _ _ hg]
   exact Below.heap_alloc _ _ _ hl
 ·have e1:own.toList.isEmpty = false:=by rw [ByteArray.toList_eq]; cases hl:own.data.toList with | nil=>exact absurd hl ho | cons _ _=>rfl
  have e1':¬ own.toList = []:=by rw [ByteArray.toList_eq]; exact ho
  have HI:Hid ((if own.data.toList ≠ [] then (.none 0:Ans) else hear c other.data.toList) = .none 0):=by simp [Hid,ho]
  clear ho
  go_wp2
  (try simp only [Exit.inBlock,Exit.then])
  refine bodyPost_ret (results_hrd rfl _ _ w.heap.size rfl (HrdAt.all HX.out)) rfl ?_
  refine ⟨_,rfl,fun b hb=>?_,below_five HB.out (Nat.le_refl _) _ _ _ _ _⟩
  rw [HI.out]
  exact ⟨rfl,by omega⟩
/-- A region,by what it leaves. -/
theorem region_via {P:Program} {id:Nat} {ops:Array Oper} {b:Bool} {Q:Exit → Act → World → Prop} {a:Act} {w:World} (R:Act → World → Prop) (h:(Code.region id ops b).wp P (fun e a' w'=>e = .normal ∧ R a' w') a w) (k:∀ a' w',R a' w' → Q .normal a' w'):(Code.region id ops b).wp P Q a w :=
 Code.wp_mono (fun e a' w' ⟨he,hr⟩=>by subst he; exact k a' w' hr) h
/-- An event's cells. -/
def evCells:Option Ev → List Value
 | none=>[]
 | some e=>[.int .i64 e.kind,.int .i64 e.station,.int .i64 e.number,.string ⟨e.msg.head.toArray⟩,.string ⟨e.msg.text.toArray⟩,.bool e.msg.clear]
def ecells (l:List Ev):List Value:=(l.map fun e=>evCells (some e)).flatten
/-- A list of events among the blocks from B on. -/
def OwnE (w:World) (B:Nat) (v:Value) (l:List Ev):Prop:=w.ownsRow B 62 6 v l.length (ecells l)
theorem OwnE.alloc {w:World} {B:Nat} {v:Value} {l:List Ev} (h:OwnE w B v l) (o:Obj):OwnE (w.alloc o) B v l:=World.ownsRow.alloc h o
theorem OwnE.keep {w w':World} {B:Nat} {v:Value} {l:List Ev} (h:OwnE w B v l) (hb:∀ g,B ≤ g → g < w.heap.size → w'.heap[g]? = w.heap[g]?):OwnE w' B v l:=by
 obtain ⟨h1,h2⟩:=h
 refine ⟨h1,?_⟩
 rcases h2 with h2 | ⟨g,cap,cur,hv,hB,hh,r⟩
 ·exact Or.inl h2
 ·exact Or.inr ⟨g,cap,cur,hv,hB,(hb g hB (lt_of_block hh)).trans hh,r⟩
theorem Tryz.infoEv:(Tryz.prog.info? 62).map (fun i=>(i.zero,i.size,i.bytes)) = some (some (.agg #[.int .i64 0,.int .i64 0,.int .i64 0,.string ⟨#[]⟩,.string ⟨#[]⟩,.bool false]),6,64):=by kernel_rfl
section
variable {ops:Array Oper} {rest:List Oper} {o:Oper} {a:Act} {Q:Exit → Act → World → Prop}
theorem app_ev (W:World) (m:Ev) (hgd:o.guard = none) (sl x:Operand)
  (ho:o.op = .call { callee:=.builtin .append,args:=#[sl,x],argTypes:=#[64,64] })
  (B:Nat) (v:Value) (l:List Ev) (g cp:Nat) (hs:a.eval sl = v) (hx:a.eval x = .slice (some ⟨g,0,none⟩) 1 cp) (hg0:g = W.heap.size) (hown:OwnE W B v l)
  (hlen:l.length ≤ 1000000) (w0:World) (hbel:Below B w0 W) (hB:B ≤ W.heap.size)
  (h:∀ v' W',OwnE W' B v' (l ++ [m]) → Below B w0 W' → B ≤ W'.heap.size → wpList Tryz.prog ops Q rest (a.put o.dst v') W') :
  wpList Tryz.prog ops Q (o::rest) a (W.alloc (.cells #[.int .i64 m.kind,.int .i64 m.station,.int .i64 m.number,.string ⟨m.msg.head.toArray⟩,.string ⟨m.msg.text.toArray⟩,.bool m.msg.clear] 62)):=by
 obtain ⟨i0,hi,hz0,hz1,hz2⟩:=info_parts Tryz.infoEv
 subst hg0
 refine wpList_append_own _ hgd sl x 64 ho B 62 i0 _ 6 64 Tryz.underlying64 hi hz0 hz1 hz2 rfl (by decide) v l.length (ecells l) hs (World.ownsRow.alloc hown _) ⟨W.heap.size,0,none⟩ 1 cp (evCells (some m)) hx rfl
  (cells_new _ _ _) (by intro u hu; simp [evCells] at hu; rcases hu with rfl | rfl | rfl | rfl | rfl | rfl <;> rfl) (by unfold maxLen; omega) (by omega) (by simp; omega) ?_
 intro v' W' ho' hg _
 have hlt:∀ k,v.ownBlock = some k → B ≤ k:=fun k hk=>(World.ownsRow.lt hown k hk).1
 refine h v' W' ?_ ((hbel.alloc hB _).grown hg (by simp; omega) hlt) (by have:=hg.size; simp at this; omega)
 unfold OwnE
 rw [show ecells (l ++ [m]) = ecells l ++ evCells (some m) by simp [ecells],List.length_append]
 exact ho'
end
end Go.Proofs.YtlbpjcphhocdkaaGreat
namespace Go.Proofs.YtlbpjcphhocdkaaGreat
open Go.RowKit
theorem run_append_foot {P:Program} (w:World) (base:Nat) (t ty e:TypeId) (i:TypeInfo) (z:Value) (size bytes:Nat) (ht:P.underlying t = some (.slice e)) (hi:P.info? e = some i) (hz:i.zero = some z)
  (hsize:i.size = size) (hby:i.bytes = bytes) (hzs:z.cells.size = size) (hsz:0 < size)
  (v:Value) (n:Nat) (xs:List Value) (hown:w.ownsRow base e size v n xs)
  (a:Addr) (m c:Nat) (news:List Value) (hl:news.length = m * size) (hnews:∀ j u,news[j]? = some u → w.cell? (a.add j) = some u) (h1:∀ u ∈ news,u.oneCell' = true)
  (h63:n + m ≤ maxLen) (hbytes:(n + m) * bytes ≤ 140737488355328) (hbase:base ≤ w.heap.size) :
  ∃ v' w',(Builtin.append_ #[t,t] ty #[v,.slice (some a) m c]).run P w = .ok v' w' ∧ w'.ownsRow base e size v' (n + m) (xs ++ news) ∧ w.grownBy w' v.ownBlock ∧
   (∀ g,v'.ownBlock = some g → v.ownBlock = some g ∨ w.heap.size ≤ g):=by
 obtain ⟨v',w',hr,h2,h3,_⟩:=run_append_own (P:=P) w base t ty e i z size bytes ht hi hz hsize hby hzs hsz v n xs hown a m c news hl hnews h1 h63 hbytes hbase
 refine ⟨v',w',hr,h2,h3,fun g hg=>?_⟩
 rcases hown.2 with ⟨rfl,rfl⟩ | ⟨g0,cap,cur,rfl,hbg,hgg,hnc,hcm,hcs,htake⟩
 ·have hx:xs = []:=List.eq_nil_of_length_eq_zero (by simpa using hown.1)
  subst hx
  obtain ⟨v2,w2,hr2,h4,_,_⟩:=run_append_own (P:=P) w w.heap.size t ty e i z size bytes ht hi hz hsize hby hzs hsz _ 0 [] (World.ownsRow_nil w w.heap.size e size) a m c news hl hnews h1 h63 hbytes (Nat.le_refl _)
  rw [hr] at hr2
  cases hr2
  exact Or.inr (World.ownsRow.lt h4 g hg).1
 ·by_cases hroom:n + m ≤ cap
  ·left
   subst hsize
   have hfit:n * i.size + news.length ≤ cur.size:=by rw [hl,hcs,← Nat.add_mul]; exact Nat.mul_le_mul_right _ hroom
   have hr2:=run_append_room (P:=P) w t ty e i ht hi g0 n cap cur hgg a m c news hl hnews h1 hroom hfit
   rw [hr] at hr2
   cases hr2
   exact hg
  ·right
   have holds:∀ j u,xs[j]? = some u → w.cell? ((⟨g0,0,none⟩:Addr).add j) = some u:=World.ownsRow.cells hown (g:=g0) rfl
   obtain ⟨v2,w2,hr2,h4,_⟩:=run_append_arg_grows (P:=P) w t ty e i z size bytes ht hi hz hsize hby hzs hsz ⟨g0,0,none⟩ n cap xs hown.1 holds a m c news hl hnews (by omega) h63 hbytes
   rw [hr] at hr2
   cases hr2
   exact (World.ownsRow.lt h4 g hg).1
theorem wpList_append_foot {P:Program} (w:World) {ops:Array Oper} {rest:List Oper} {o:Oper} {ac:Act} {Q:Exit → Act → World → Prop} (hgd:o.guard = none) (s x:Operand) (t:TypeId)
  (ho:o.op = .call { callee:=.builtin .append,args:=#[s,x],argTypes:=#[t,t] })
  (base:Nat) (e:TypeId) (i:TypeInfo) (z:Value) (size bytes:Nat) (ht:P.underlying t = some (.slice e)) (hi:P.info? e = some i) (hz:i.zero = some z)
  (hsize:i.size = size) (hby:i.bytes = bytes) (hzs:z.cells.size = size) (hsz:0 < size)
  (v:Value) (n:Nat) (xs:List Value) (hs:ac.eval s = v) (hown:w.ownsRow base e size v n xs)
  (ad:Addr) (m c:Nat) (news:List Value) (hx:ac.eval x = .slice (some ad) m c) (hl:news.length = m * size) (hnews:∀ j u,news[j]? = some u → w.cell? (ad.add j) = some u) (h1:∀ u ∈ news,u.oneCell' = true)
  (h63:n + m ≤ maxLen) (hbytes:(n + m) * bytes ≤ 140737488355328) (hbase:base ≤ w.heap.size)
  (h:∀ v' w',w'.ownsRow base e size v' (n + m) (xs ++ news) → w.grownBy w' v.ownBlock → (∀ g,v'.ownBlock = some g → v.ownBlock = some g ∨ w.heap.size ≤ g) → wpList P ops Q rest (ac.put o.dst v') w'):wpList P ops Q (o::rest) ac w :=
 wpList_plain hgd fun _ hK=>by
  obtain ⟨v',w',hr,h2,h3,h4⟩:=run_append_foot (P:=P) w base t o.type e i z size bytes ht hi hz hsize hby hzs hsz v n xs hown ad m c news hl hnews h1 h63 hbytes hbase
  unfold Oper.wp execOp
  simp only [ho,resolve,invoke,builtin,Sem.run_bind,Sem.run_pure,Result.andThen_ok,List.map_toArray,List.map_cons,List.map_nil,hs,hx,hr]
  exact hK _ _ (h v' w' h2 h3 h4)
end Go.Proofs.YtlbpjcphhocdkaaGreat
namespace Go.Proofs.YtlbpjcphhocdkaaGreat
open Go.RowKit Go.Proofs.YtlbpjcphhocdkaaGreat.Mod Go.Proofs.YtlbpjcphhocdkaaGreat.Pst
/-- An answer in fresh memory. -/
def HPost (A:Ans) (w:World) (e:Ending) (w':World):Prop:=∃ x,e = .returned x ∧ (∀ b,b < w.heap.size → HrdV w' b x A) ∧ Below w.heap.size w w'
theorem heard_list (c:Cfg) (hc:c.Ok) (lo lt:List UInt8) (w:World) (hs:lt.length ≤ 140737488352000) :
  Calls Tryz.prog 85 #[.string ⟨lo.toArray⟩,.string ⟨lt.toArray⟩,.int .i64 c.check] w fun e w'=>HPost (if lo ≠ [] then .none 0 else hear c lt) w e w':=heard_any c hc ⟨lo.toArray⟩ ⟨lt.toArray⟩ w hs
/-- What lies in a box of what was heard. -/
def HBox (W:World) (b g:Nat) (A:Ans):Prop:=∃ (hd:ByteArray) (a:Option Addr) (n cap:Nat) (cl la:Bool),HrdAt W g (.int .i64 (kindOf A:Nat)) (.string hd) (.slice a n cap) (.bool cl) (.bool la) ∧ HrdV W b (.agg #[.int .i64 (kindOf A:Nat),.string hd,.slice a n cap,.bool cl,.bool la]) A
theorem HBox.below {w w':World} {b g:Nat} {A:Ans} (h:HBox w b g A) (k:Below w.heap.size w w'):HBox w' b g A:=by
 obtain ⟨hd,a,n,cap,cl,la,h1,h2⟩:=h
 exact ⟨hd,a,n,cap,cl,la,h1.below k (lt_of_block h1),h2.below k⟩
theorem HBox.bes {w w':World} {b g o:Nat} {A:Ans} (h:HBox w b g A) (k:Bes b o w w') (hg:b ≠ g):HBox w' b g A:=by
 obtain ⟨hd,a,n,cap,cl,la,h1,h2⟩:=h
 exact ⟨hd,a,n,cap,cl,la,h1.bes k hg,h2.bes k⟩
theorem HBox.lt {w:World} {b g:Nat} {A:Ans} (h:HBox w b g A):g < w.heap.size:=by obtain ⟨_,_,_,_,_,_,h1,_⟩:=h; exact lt_of_block h1
theorem HrdAt.atD {w:World} {g:Nat} (hg:w.heap.size = g) (n h v c t:Value):HrdAt (w.alloc (.cells #[n,h,v,c,t] 98)).drew g n h v c t:=HrdAt.at hg n h v c t
/-- The box made behind the call .. -/
theorem hbox1 {W0 w2:World} {b:Nat} {x:Value} {A:Ans} {hd:ByteArray} {a:Option Addr} {n cap:Nat} {cl la:Bool} (hx:x = .agg #[.int .i64 (kindOf A:Nat),.string hd,.slice a n cap,.bool cl,.bool la]) (hV:∀ b,b < W0.heap.size → HrdV w2 b x A) (hb:b < W0.heap.size) :
  HBox (w2.alloc (.cells #[.int .i64 (kindOf A:Nat),.string hd,.slice a n cap,.bool cl,.bool la] 98)) b w2.heap.size A:=by
 subst hx
 exact ⟨hd,a,n,cap,cl,la,HrdAt.at rfl _ _ _ _ _,(hV b hb).below ((Below.refl _ _).alloc (Nat.le_refl _) _)⟩
/-- .. and ahead of it. -/
theorem hbox2 {w2:World} {b g B:Nat} {x:Value} {A:Ans} {hd:ByteArray} {a:Option Addr} {n cap:Nat} {cl la:Bool} {v0 v1 v2 v3 v4:Value} (hx:x = .agg #[.int .i64 (kindOf A:Nat),.string hd,.slice a n cap,.bool cl,.bool la]) (hV:∀ b,b < B → HrdV w2 b x A) (hb:b < B) (hg:g < B) (Z:HrdAt w2 g v0 v1 v2 v3 v4) :
  HBox (((((w2.setCell ⟨g,0,none⟩ (.int .i64 (kindOf A:Nat))).setCell ⟨g,1,none⟩ (.string hd)).setCell ⟨g,2,none⟩ (.slice a n cap)).setCell ⟨g,3,none⟩ (.bool cl)).setCell ⟨g,4,none⟩ (.bool la)) b g A:=by
 subst hx
 exact ⟨hd,a,n,cap,cl,la,HrdAt.all Z,HrdV.both (hV b hb) (hV g hg) fun k hk _=>five_keep _ _ _ _ _ _ _ _ hk⟩
/-- The cells that a tick reads first. -/
theorem tick_cells {w W:World} {b:Nat} {v0 v1 v2:Value} (h0:w.cell? ⟨b,14,none⟩ = some v0) (h1:w.cell? ⟨b,29,none⟩ = some v1) (h2:w.cell? ⟨b,0,none⟩ = some v2) (hb:Below w.heap.size w W):Below w.heap.size w W ∧ W.cell? ⟨b,14,none⟩ = some v0 ∧ W.cell? ⟨b,29,none⟩ = some v1 ∧ W.cell? ⟨b,0,none⟩ = some v2 :=
 ⟨hb,(hb.cell (World.block_lt_of_cell? w _ h0)).trans h0,(hb.cell (World.block_lt_of_cell? w _ h1)).trans h1,(hb.cell (World.block_lt_of_cell? w _ h2)).trans h2⟩
/-- The frame behind what station 0 hears; behind what station 1 hears. -/
def Tk5 (b:Nat) (g5:Nat) (a:Act):Prop:=a.defers = [] ∧ a.tmps = List.toArray (.pointer (some ⟨b,0,none⟩)::gd a 1::.slice none 0 0::.pointer (some ⟨b,10,none⟩)::.pointer (some ⟨b,25,none⟩)::.pointer (some ⟨g5,0,none⟩)::gd a 6::gd a 7::gd a 8::gd a 9::gd a 10::gd a 11::gd a 12::gd a 13::gd a 14::gd a 15::gd a 16::gd a 17::gd a 18::gd a 19::gd a 20::gd a 21::gd a 22::gd a 23::gd a 24::gd a 25::gd a 26::gd a 27::gd a 28::gd a 29::gd a 30::gd a 31::gd a 32::gd a 33::gd a 34::gd a 35::gd a 36::gd a 37::gd a 38::gd a 39::gd a 40::gd a 41::gd a 42::gd a 43::gd a 44::gd a 45::gd a 46::gd a 47::gd a 48::gd a 49::gd a 50::gd a 51::gd a 52::gd a 53::gd a 54::gd a 55::gd a 56::gd a 57::gd a 58::gd a 59::gd a 60::gd a 61::gd a 62::gd a 63::gd a 64::gd a 65::gd a 66::gd a 67::gd a 68::gd a 69::gd a 70::gd a 71::gd a 72::gd a 73::gd a 74::gd a 75::gd a 76::gd a 77::gd a 78::gd a 79::gd a 80::[])
theorem Tk5.use {b g5:Nat} {a:Act} (h:Tk5 b g5 a):∃ u:Nat → Value,a = { tmps:=List.toArray (.pointer (some ⟨b,0,none⟩)::u 1::.slice none 0 0::.pointer (some ⟨b,10,none⟩)::.pointer (some ⟨b,25,none⟩)::.pointer (some ⟨g5,0,none⟩)::u 6::u 7::u 8::u 9::u 10::u 11::u 12::u 13::u 14::u 15::u 16::u 17::u 18::u 19::u 20::u 21::u 22::u 23::u 24::u 25::u 26::u 27::u 28::u 29::u 30::u 31::u 32::u 33::u 34::u 35::u 36::u 37::u 38::u 39::u 40::u 41::u 42::u 43::u 44::u 45::u 46::u 47::u 48::u 49::u 50::u 51::u 52::u 53::u 54::u 55::u 56::u 57::u 58::u 59::u 60::u 61::u 62::u 63::u 64::u 65::u 66::u 67::u 68::u 69::u 70::u 71::u 72::u 73::u 74::u 75::u 76::u 77::u 78::u 79::u 80::[]),defers:=[] }:=⟨fun i=>a.tmps.getD i undef,by obtain ⟨h1,h2⟩:=h; cases a; simp only at h1 h2; subst h1; exact congrArg (fun t=>({ tmps:=t,defers:=[] }:Act)) h2⟩
def Tk6 (b g5:Nat) (g6:Nat) (a:Act):Prop:=a.defers = [] ∧ a.tmps = List.toArray (.pointer (some ⟨b,0,none⟩)::gd a 1::.slice none 0 0::.pointer (some ⟨b,10,none⟩)::.pointer (some ⟨b,25,none⟩)::.pointer (some ⟨g5,0,none⟩)::.pointer (some ⟨g6,0,none⟩)::gd a 7::gd a 8::gd a 9::gd a 10::gd a 11::gd a 12::gd a 13::gd a 14::gd a 15::gd a 16::gd a 17::gd a 18::gd a 19::gd a 20::gd a 21::gd a 22::gd a 23::gd a 24::gd a 25::gd a 26::gd a 27::gd a 28::gd a 29::gd a 30::gd a 31::gd a 32::gd a 33::gd a 34::gd a 35::gd a 36::gd a 37::gd a 38::gd a 39::gd a 40::gd a 41::gd a 42::gd a 43::gd a 44::gd a 45::gd a 46::gd a 47::gd a 48::gd a 49::gd a 50::gd a 51::gd a 52::gd a 53::gd a 54::gd a 55::gd a 56::gd a 57::gd a 58::gd a 59::gd a 60::gd a 61::gd a 62::gd a 63::gd a 64::gd a 65::gd a 66::gd a 67::gd a 68::gd a 69::gd a 70::gd a 71::gd a 72::gd a 73::gd a 74::gd a 75::gd a 76::gd a 77::gd a 78::gd a 79::gd a 80::[])
theorem Tk6.use {b g5 g6:Nat} {a:Act} (h:Tk6 b g5 g6 a):∃ u:Nat → Value,a = { tmps:=List.toArray (.pointer (some ⟨b,0,none⟩)::u 1::.slice none 0 0::.pointer (some ⟨b,10,none⟩)::.pointer (some ⟨b,25,none⟩)::.pointer (some ⟨g5,0,none⟩)::.pointer (some ⟨g6,0,none⟩)::u 7::u 8::u 9::u 10::u 11::u 12::u 13::u 14::u 15::u 16::u 17::u 18::u 19::u 20::u 21::u 22::u 23::u 24::u 25::u 26::u 27::u 28::u 29::u 30::u 31::u 32::u 33::u 34::u 35::u 36::u 37::u 38::u 39::u 40::u 41::u 42::u 43::u 44::u 45::u 46::u 47::u 48::u 49::u 50::u 51::u 52::u 53::u 54::u 55::u 56::u 57::u 58::u 59::u 60::u 61::u 62::u 63::u 64::u 65::u 66::u 67::u 68::u 69::u 70::u 71::u 72::u 73::u 74::u 75::u 76::u 77::u 78::u 79::u 80::[]),defers:=[] }:=⟨fun i=>a.tmps.getD i undef,by obtain ⟨h1,h2⟩:=h; cases a; simp only at h1 h2; subst h1; exact congrArg (fun t=>({ tmps:=t,defers:=[] }:Act)) h2⟩
def HReg (w:World) (b:Nat) (A:Ans) (T:Nat → Act → Prop) (a:Act) (W:World):Prop:=∃ g,T g a ∧ Below w.heap.size w W ∧ HBox W b g A ∧ w.heap.size ≤ g
theorem code_via {P:Program} {cd:Code} {Q:Exit → Act → World → Prop} {a:Act} {w:World} (R:Act → World → Prop) (h:cd.wp P (fun e a' w'=>e = .normal ∧ R a' w') a w) (k:∀ a' w',R a' w' → Q .normal a' w'):cd.wp P Q a w :=
 Code.wp_mono (fun e a' w' ⟨he,hr⟩=>by subst he; exact k a' w' hr) h
theorem StAt.put0 {w:World} {F:Nat → Prop} {b:Nat} {s:PS} (h:StAt w F b 10 s):StAt (w.setCell ⟨b,14,none⟩ (.string ⟨#[]⟩)) F b 10 { s with put:=[] }:=h.put' []
theorem StAt.put1 {w:World} {F:Nat → Prop} {b:Nat} {s:PS} (h:StAt w F b 25 s):StAt (w.setCell ⟨b,29,none⟩ (.string ⟨#[]⟩)) F b 25 { s with put:=[] }:=h.put' []
/-- Ahead of what the stations do. -/
structure Mid (w W:World) (F0 F1:Nat → Prop) (b g5 g6 gE:Nat) (c:Cfg) (q0 q1:PS) (A0 A1:Ans):Prop where
 s0:StAt W F0 b 10 q0
 s1:StAt W F1 b 25 q1
 cf:CfgL W b c
 fr:Fr (fun g=>g = b) w W
 x5:HBox W b g5 A0
 x6:HBox W b g6 A1
 ge:OwnE W gE (.slice (some ⟨gE,0,none⟩) 0 0) []
 h5:w.heap.size ≤ g5
 h6:w.heap.size ≤ g6
 hE:w.heap.size ≤ gE
theorem mid_at {w W:World} {F0 F1:Nat → Prop} {b g5 g6:Nat} {c:Cfg} {p0 p1:PS} {A0 A1:Ans} (s0:StAt w F0 b 10 p0) (s1:StAt w F1 b 25 p1) (cf:CfgL w b c) (hb:Below w.heap.size w W) (x5:HBox W b g5 A0) (x6:HBox W b g6 A1) (h5:w.heap.size ≤ g5) (h6:w.heap.size ≤ g6) :
  Mid w (((W.setCell ⟨b,14,none⟩ (.string ⟨#[]⟩)).setCell ⟨b,29,none⟩ (.string ⟨#[]⟩)).alloc (.cells #[] 62)) F0 F1 b g5 g6 W.heap.size c { p0 with put:=[] } { p1 with put:=[] } A0 A1:=by
 have hlt:=s0.lt
 have t0:=s0.below hb
 have t1:=s1.below hb
 have B1:Bes b 10 W (W.setCell ⟨b,14,none⟩ (.string ⟨#[]⟩)):=(Bes.refl b 10 W).set 4 (by omega) _
 have B2:Bes b 25 (W.setCell ⟨b,14,none⟩ (.string ⟨#[]⟩)) ((W.setCell ⟨b,14,none⟩ (.string ⟨#[]⟩)).setCell ⟨b,29,none⟩ (.string ⟨#[]⟩)):=(Bes.refl b 25 _).set 4 (by omega) _
 have hs:((W.setCell ⟨b,14,none⟩ (.string ⟨#[]⟩)).setCell ⟨b,29,none⟩ (.string ⟨#[]⟩)).heap.size = W.heap.size:=by simp
 have ba:Below ((W.setCell ⟨b,14,none⟩ (.string ⟨#[]⟩)).setCell ⟨b,29,none⟩ (.string ⟨#[]⟩)).heap.size ((W.setCell ⟨b,14,none⟩ (.string ⟨#[]⟩)).setCell ⟨b,29,none⟩ (.string ⟨#[]⟩)) (((W.setCell ⟨b,14,none⟩ (.string ⟨#[]⟩)).setCell ⟨b,29,none⟩ (.string ⟨#[]⟩)).alloc (.cells #[] 62)):=(Below.refl _ _).alloc (Nat.le_refl _) _
 have hbs:=hb.size
 have n5:b ≠ g5:=by omega
 have n6:b ≠ g6:=by omega
 refine ⟨((t0.put0).beside B2 (by omega)).below ba,((t1.beside B1 (by omega)).put1).below ba,(((cf.below hb hlt).bes B1 (by omega)).bes B2 (by omega)).below ba (by rw [hs]; omega),?_,((x5.bes B1 n5).bes B2 n5).below ba,((x6.bes B1 n6).bes B2 n6).below ba,?_,h5,h6,hbs⟩
 ·exact ((Fr.of_below hb).trans B1.fr (fun g _ h=>h)).trans (B2.fr) (fun g _ h=>h) |>.trans (Fr.of_below (F:=fun g=>g = b) ba) (fun g _ h=>h)
 ·have:=World.ownsRow_lit (base:=W.heap.size) (e:=62) (size:=6) ((W.setCell ⟨b,14,none⟩ (.string ⟨#[]⟩)).setCell ⟨b,29,none⟩ (.string ⟨#[]⟩)) #[] 0 (by rw [hs]; exact Nat.le_refl _) (by unfold maxLen; omega) rfl
  rw [hs] at this
  exact this
theorem StAt.only {w:World} {F G:Nat → Prop} {b o:Nat} {s:PS} (h:StAt w F b o s) (hG:∀ g,F g → (∃ v,w.cell? ⟨b,o + 1,none⟩ = some v ∧ v.ownBlock = some g) → G g) (hn:¬ G b):StAt w G b o s:=by
 obtain ⟨v,hv,hq⟩:=h.que
 exact ⟨h.side,⟨v,hv,hq.1,fun g hg=>hG g (hq.2 g hg) ⟨v,hv,hg⟩⟩,h.joined,h.busy,h.put,h.mode,h.wait,h.rest,h.tries,h.off,h.free,h.block,h.head,h.text,h.yes,h.fz,hn⟩
/-- Where the queue lies. -/
theorem StAt.qlt {w:World} {F:Nat → Prop} {b o:Nat} {s:PS} (h:StAt w F b o s) {g:Nat} (hg:∃ v,w.cell? ⟨b,o + 1,none⟩ = some v ∧ v.ownBlock = some g):g < w.heap.size:=by
 obtain ⟨v,hv,hq⟩:=h.que
 obtain ⟨v',hv',hg⟩:=hg
 rw [hv] at hv'
 cases hv'
 exact hq.lt g hg
def Tk8 (b g5 g6 gE g8:Nat) (a:Act):Prop:=a.defers = [] ∧ a.tmps = List.toArray (.pointer (some ⟨b,0,none⟩)::gd a 1::.slice none 0 0::.pointer (some ⟨b,10,none⟩)::.pointer (some ⟨b,25,none⟩)::.pointer (some ⟨g5,0,none⟩)::.pointer (some ⟨g6,0,none⟩)::.slice (some ⟨gE,0,none⟩) 0 0::.pointer (some ⟨g8,0,none⟩)::gd a 9::gd a 10::gd a 11::gd a 12::gd a 13::gd a 14::gd a 15::gd a 16::gd a 17::gd a 18::gd a 19::gd a 20::gd a 21::gd a 22::gd a 23::gd a 24::gd a 25::gd a 26::gd a 27::gd a 28::gd a 29::gd a 30::gd a 31::gd a 32::gd a 33::gd a 34::gd a 35::gd a 36::gd a 37::gd a 38::gd a 39::gd a 40::gd a 41::gd a 42::gd a 43::gd a 44::gd a 45::gd a 46::gd a 47::gd a 48::gd a 49::gd a 50::gd a 51::gd a 52::gd a 53::gd a 54::gd a 55::gd a 56::gd a 57::gd a 58::gd a 59::gd a 60::gd a 61::gd a 62::gd a 63::gd a 64::gd a 65::gd a 66::gd a 67::gd a 68::gd a 69::gd a 70::gd a 71::gd a 72::gd a 73::gd a 74::gd a 75::gd a 76::gd a 77::gd a 78::gd a 79::gd a 80::[])
theorem Tk8.use {b g5 g6 gE g8:Nat} {a:Act} (h:Tk8 b g5 g6 gE g8 a):∃ u:Nat → Value,a = { tmps:=List.toArray (.pointer (some ⟨b,0,none⟩)::u 1::.slice none 0 0::.pointer (some ⟨b,10,none⟩)::.pointer (some ⟨b,25,none⟩)::.pointer (some ⟨g5,0,none⟩)::.pointer (some ⟨g6,0,none⟩)::.slice (some ⟨gE,0,none⟩) 0 0::.pointer (some ⟨g8,0,none⟩)::u 9::u 10::u 11::u 12::u 13::u 14::u 15::u 16::u 17::u 18::u 19::u 20::u 21::u 22::u 23::u 24::u 25::u 26::u 27::u 28::u 29::u 30::u 31::u 32::u 33::u 34::u 35::u 36::u 37::u 38::u 39::u 40::u 41::u 42::u 43::u 44::u 45::u 46::u 47::u 48::u 49::u 50::u 51::u 52::u 53::u 54::u 55::u 56::u 57::u 58::u 59::u 60::u 61::u 62::u 63::u 64::u 65::u 66::u 67::u 68::u 69::u 70::u 71::u 72::u 73::u 74::u 75::u 76::u 77::u 78::u 79::u 80::[]),defers:=[] }:=⟨fun i=>a.tmps.getD i undef,by obtain ⟨h1,h2⟩:=h; cases a; simp only at h1 h2; subst h1; exact congrArg (fun t=>({ tmps:=t,defers:=[] }:Act)) h2⟩
def Tk10 (b g6 g8:Nat) (v:Value) (a:Act):Prop:=a.defers = [] ∧ a.tmps = List.toArray (.pointer (some ⟨b,0,none⟩)::gd a 1::.slice none 0 0::gd a 3::.pointer (some ⟨b,25,none⟩)::gd a 5::.pointer (some ⟨g6,0,none⟩)::v::.pointer (some ⟨g8,0,none⟩)::gd a 9::gd a 10::gd a 11::gd a 12::gd a 13::gd a 14::gd a 15::gd a 16::gd a 17::gd a 18::gd a 19::gd a 20::gd a 21::gd a 22::gd a 23::gd a 24::gd a 25::gd a 26::gd a 27::gd a 28::gd a 29::gd a 30::gd a 31::gd a 32::gd a 33::gd a 34::gd a 35::gd a 36::gd a 37::gd a 38::gd a 39::gd a 40::gd a 41::gd a 42::gd a 43::gd a 44::gd a 45::gd a 46::gd a 47::gd a 48::gd a 49::gd a 50::gd a 51::gd a 52::gd a 53::gd a 54::gd a 55::gd a 56::gd a 57::gd a 58::gd a 59::gd a 60::gd a 61::gd a 62::gd a 63::gd a 64::gd a 65::gd a 66::gd a 67::gd a 68::gd a 69::gd a 70::gd a 71::gd a 72::gd a 73::gd a 74::gd a 75::gd a 76::gd a 77::gd a 78::gd a 79::gd a 80::[])
theorem Tk10.use {b g6 g8:Nat} {v:Value} {a:Act} (h:Tk10 b g6 g8 v a):∃ u:Nat → Value,a = { tmps:=List.toArray (.pointer (some ⟨b,0,none⟩)::u 1::.slice none 0 0::u 3::.pointer (some ⟨b,25,none⟩)::u 5::.pointer (some ⟨g6,0,none⟩)::v::.pointer (some ⟨g8,0,none⟩)::u 9::u 10::u 11::u 12::u 13::u 14::u 15::u 16::u 17::u 18::u 19::u 20::u 21::u 22::u 23::u 24::u 25::u 26::u 27::u 28::u 29::u 30::u 31::u 32::u 33::u 34::u 35::u 36::u 37::u 38::u 39::u 40::u 41::u 42::u 43::u 44::u 45::u 46::u 47::u 48::u 49::u 50::u 51::u 52::u 53::u 54::u 55::u 56::u 57::u 58::u 59::u 60::u 61::u 62::u 63::u 64::u 65::u 66::u 67::u 68::u 69::u 70::u 71::u 72::u 73::u 74::u 75::u 76::u 77::u 78::u 79::u 80::[]),defers:=[] }:=⟨fun i=>a.tmps.getD i undef,by obtain ⟨h1,h2⟩:=h; cases a; simp only at h1 h2; subst h1; exact congrArg (fun t=>({ tmps:=t,defers:=[] }:Act)) h2⟩
theorem Bes.allocN {b o:Nat} {u w:World} (h:Bes b o u w) (hb:b < u.heap.size) (x:Obj):Bes b o u (w.alloc x):=h.alloc (Nat.lt_of_lt_of_le hb h.size) x
theorem Bes.setO {b o:Nat} {u w:World} (h:Bes b o u w) {g:Nat} (hg:u.heap.size ≤ g) (hb:b < u.heap.size) (k:Nat) (v:Value):Bes b o u (w.setCell ⟨g,k,none⟩ v):=by
 have hne:g ≠ b:=by omega
 refine ⟨h.os,h.tape,h.output,by simpa using h.size,fun i hi hn=>?_,fun j hj=>?_,fun j=>?_⟩
 ·rw [Below.heap_setCell _ _ _ _ (by simp only [ne_eq]; omega)]; exact h.block i hi hn
 ·rw [World.cell?_setCell_other _ _ _ _ (fun e=>hne (congrArg Addr.block e))]; exact h.cell j hj
 ·rw [World.frozen?_setCell]; exact h.froz j
/-- An event in its box. -/
def EvBox (W:World) (g:Nat) (x:Option Ev):Prop:=∃ (ek est en:Int) (eh et:ByteArray) (ec:Bool),evV x = .agg #[.int .i64 ek,.int .i64 est,.int .i64 en,.string eh,.string et,.bool ec] ∧ EvAt W g (.int .i64 ek) (.int .i64 est) (.int .i64 en) (.string eh) (.string et) (.bool ec)
/-- Behind what a station did. -/
def Acted (W8:World) (F0:Nat → Prop) (b o:Nat) (r:PS × Option Ev) (T:Nat → Act → Prop) (a:Act) (W:World):Prop :=
 ∃ g,T g a ∧ EvBox W g r.2 ∧ StAt W (fun x=>Plus F0 W8 x ∧ x ≠ g) b o r.1 ∧ Bes b o W8 W ∧ W8.heap.size ≤ g
theorem act_cells {W8 W:World} {b o g:Nat} {c:Cfg} {v0 v1 v2 v3 v4:Value} (hX:HrdAt W8 g v0 v1 v2 v3 v4) (cf:CfgL W8 b c) (hn:b ≠ g) (ho:10 ≤ o) (hB:Bes b o W8 W) :
  Bes b o W8 W ∧ (W.cell? ⟨g,0,none⟩ = some v0 ∧ W.cell? ⟨g,1,none⟩ = some v1 ∧ W.cell? ⟨g,2,none⟩ = some v2 ∧ W.cell? ⟨g,3,none⟩ = some v3 ∧ W.cell? ⟨g,4,none⟩ = some v4) ∧
  (W.cell? ⟨b,0,none⟩ = some (.int .i64 c.check) ∧ W.cell? ⟨b,1,none⟩ = some (.int .i64 c.size) ∧ W.cell? ⟨b,2,none⟩ = some (.int .i64 c.parts) ∧ W.cell? ⟨b,3,none⟩ = some (.int .i64 c.queue) ∧ W.cell? ⟨b,4,none⟩ = some (.int .i64 c.first) ∧
  W.cell? ⟨b,5,none⟩ = some (.int .i64 c.second) ∧ W.cell? ⟨b,6,none⟩ = some (.int .i64 c.reply) ∧ W.cell? ⟨b,7,none⟩ = some (.int .i64 c.lost) ∧ W.cell? ⟨b,8,none⟩ = some (.int .i64 c.tries) ∧ W.cell? ⟨b,9,none⟩ = some (.int .i64 c.waits)) :=
 ⟨hB,(hX.bes hB hn).cell,cf.bes hB ho⟩
theorem EvAt.atD {w:World} {g:Nat} (hg:w.heap.size = g) (v0 v1 v2 v3 v4 v5:Value):EvAt (w.alloc (.cells #[v0,v1,v2,v3,v4,v5] 62)).drew g v0 v1 v2 v3 v4 v5:=EvAt.new hg _ _ _ _ _ _
def Tk11 (b g8:Nat) (v:Value) (a:Act):Prop:=a.defers = [] ∧ a.tmps = List.toArray (.pointer (some ⟨b,0,none⟩)::gd a 1::.slice none 0 0::gd a 3::gd a 4::gd a 5::gd a 6::v::.pointer (some ⟨g8,0,none⟩)::gd a 9::gd a 10::gd a 11::gd a 12::gd a 13::gd a 14::gd a 15::gd a 16::gd a 17::gd a 18::gd a 19::gd a 20::gd a 21::gd a 22::gd a 23::gd a 24::gd a 25::gd a 26::gd a 27::gd a 28::gd a 29::gd a 30::gd a 31::gd a 32::gd a 33::gd a 34::gd a 35::gd a 36::gd a 37::gd a 38::gd a 39::gd a 40::gd a 41::gd a 42::gd a 43::gd a 44::gd a 45::gd a 46::gd a 47::gd a 48::gd a 49::gd a 50::gd a 51::gd a 52::gd a 53::gd a 54::gd a 55::gd a 56::gd a 57::gd a 58::gd a 59::gd a 60::gd a 61::gd a 62::gd a 63::gd a 64::gd a 65::gd a 66::gd a 67::gd a 68::gd a 69::gd a 70::gd a 71::gd a 72::gd a 73::gd a 74::gd a 75::gd a 76::gd a 77::gd a 78::gd a 79::gd a 80::[])
theorem Tk11.use {b g8:Nat} {v:Value} {a:Act} (h:Tk11 b g8 v a):∃ u:Nat → Value,a = { tmps:=List.toArray (.pointer (some ⟨b,0,none⟩)::u 1::.slice none 0 0::u 3::u 4::u 5::u 6::v::.pointer (some ⟨g8,0,none⟩)::u 9::u 10::u 11::u 12::u 13::u 14::u 15::u 16::u 17::u 18::u 19::u 20::u 21::u 22::u 23::u 24::u 25::u 26::u 27::u 28::u 29::u 30::u 31::u 32::u 33::u 34::u 35::u 36::u 37::u 38::u 39::u 40::u 41::u 42::u 43::u 44::u 45::u 46::u 47::u 48::u 49::u 50::u 51::u 52::u 53::u 54::u 55::u 56::u 57::u 58::u 59::u 60::u 61::u 62::u 63::u 64::u 65::u 66::u 67::u 68::u 69::u 70::u 71::u 72::u 73::u 74::u 75::u 76::u 77::u 78::u 79::u 80::[]),defers:=[] }:=⟨fun i=>a.tmps.getD i undef,by obtain ⟨h1,h2⟩:=h; cases a; simp only at h1 h2; subst h1; exact congrArg (fun t=>({ tmps:=t,defers:=[] }:Act)) h2⟩
def Tk13 (b:Nat) (v:Value) (a:Act):Prop:=a.defers = [] ∧ a.tmps = List.toArray (.pointer (some ⟨b,0,none⟩)::gd a 1::.slice none 0 0::gd a 3::gd a 4::gd a 5::gd a 6::v::gd a 8::gd a 9::gd a 10::gd a 11::gd a 12::gd a 13::gd a 14::gd a 15::gd a 16::gd a 17::gd a 18::gd a 19::gd a 20::gd a 21::gd a 22::gd a 23::gd a 24::gd a 25::gd a 26::gd a 27::gd a 28::gd a 29::gd a 30::gd a 31::gd a 32::gd a 33::gd a 34::gd a 35::gd a 36::gd a 37::gd a 38::gd a 39::gd a 40::gd a 41::gd a 42::gd a 43::gd a 44::gd a 45::gd a 46::gd a 47::gd a 48::gd a 49::gd a 50::gd a 51::gd a 52::gd a 53::gd a 54::gd a 55::gd a 56::gd a 57::gd a 58::gd a 59::gd a 60::gd a 61::gd a 62::gd a 63::gd a 64::gd a 65::gd a 66::gd a 67::gd a 68::gd a 69::gd a 70::gd a 71::gd a 72::gd a 73::gd a 74::gd a 75::gd a 76::gd a 77::gd a 78::gd a 79::gd a 80::[])
theorem Tk13.use {b:Nat} {v:Value} {a:Act} (h:Tk13 b v a):∃ u:Nat → Value,a = { tmps:=List.toArray (.pointer (some ⟨b,0,none⟩)::u 1::.slice none 0 0::u 3::u 4::u 5::u 6::v::u 8::u 9::u 10::u 11::u 12::u 13::u 14::u 15::u 16::u 17::u 18::u 19::u 20::u 21::u 22::u 23::u 24::u 25::u 26::u 27::u 28::u 29::u 30::u 31::u 32::u 33::u 34::u 35::u 36::u 37::u 38::u 39::u 40::u 41::u 42::u 43::u 44::u 45::u 46::u 47::u 48::u 49::u 50::u 51::u 52::u 53::u 54::u 55::u 56::u 57::u 58::u 59::u 60::u 61::u 62::u 63::u 64::u 65::u 66::u 67::u 68::u 69::u 70::u 71::u 72::u 73::u 74::u 75::u 76::u 77::u 78::u 79::u 80::[]),defers:=[] }:=⟨fun i=>a.tmps.getD i undef,by obtain ⟨h1,h2⟩:=h; cases a; simp only at h1 h2; subst h1; exact congrArg (fun t=>({ tmps:=t,defers:=[] }:Act)) h2⟩
/-- The events so far: none,or in memory behind W9. -/
def LstAt (W W9:World) (gE:Nat) (v:Value) (l:List Ev):Prop:=(l = [] ∧ v = .slice (some ⟨gE,0,none⟩) 0 0) ∨ (l ≠ [] ∧ OwnE W W9.heap.size v l)
def Lsted (W9:World) (gE:Nat) (l:List Ev) (T:Value → Act → Prop) (a:Act) (W:World):Prop:=∃ v,T v a ∧ LstAt W W9 gE v l ∧ Below W9.heap.size W9 W
section
variable {ops:Array Oper} {rest:List Oper} {o:Oper} {a:Act} {Q:Exit → Act → World → Prop}
/-- append onto the empty list. -/
theorem app_ev0 (W:World) (m:Ev) (hgd:o.guard = none) (sl x:Operand)
  (ho:o.op = .call { callee:=.builtin .append,args:=#[sl,x],argTypes:=#[64,64] })
  (gE g cp:Nat) (hs:a.eval sl = .slice (some ⟨gE,0,none⟩) 0 0) (hx:a.eval x = .slice (some ⟨g,0,none⟩) 1 cp) (hg0:g = W.heap.size)
  (h:∀ v' W',OwnE W' W.heap.size v' [m] → Below W.heap.size W W' → wpList Tryz.prog ops Q rest (a.put o.dst v') W') :
  wpList Tryz.prog ops Q (o::rest) a (W.alloc (.cells #[.int .i64 m.kind,.int .i64 m.station,.int .i64 m.number,.string ⟨m.msg.head.toArray⟩,.string ⟨m.msg.text.toArray⟩,.bool m.msg.clear] 62)):=by
 obtain ⟨i0,hi,hz0,hz1,hz2⟩:=info_parts Tryz.infoEv
 subst hg0
 refine wpList_append_grows _ hgd sl x 64 ho 62 i0 _ 6 64 Tryz.underlying64 hi hz0 hz1 hz2 rfl (by decide) (some ⟨gE,0,none⟩) 0 0 [] hs (fun e=>by cases e) rfl (by intro _ _ _ _ h; simp at h) ⟨W.heap.size,0,none⟩ 1 cp (evCells (some m)) hx rfl
  (cells_new _ _ _) (by intro u hu; simp [evCells] at hu; rcases hu with rfl | rfl | rfl | rfl | rfl | rfl <;> rfl) (by omega) (by unfold maxLen; omega) (by omega) ?_
 intro v' W' ho' hg
 refine h v' W' ?_ (((Below.refl _ _).alloc (Nat.le_refl _) _).grown hg (by simp) (fun k hk=>by cases hk))
 obtain ⟨h1,h2⟩:=ho'
 refine ⟨by simpa [ecells] using h1,?_⟩
 rcases h2 with h2 | ⟨g,cap,cur,hv,hB,r⟩
 ·exact absurd h2.2 (by omega)
 ·refine Or.inr ⟨g,cap,cur,hv,by simp at hB; omega,?_⟩
  simpa [ecells] using r
/-- append onto a list behind B: nothing but its own block is touched. -/
theorem app_ev1 (W:World) (m:Ev) (hgd:o.guard = none) (sl x:Operand)
  (ho:o.op = .call { callee:=.builtin .append,args:=#[sl,x],argTypes:=#[64,64] })
  (B:Nat) (v:Value) (l:List Ev) (g cp:Nat) (hs:a.eval sl = v) (hx:a.eval x = .slice (some ⟨g,0,none⟩) 1 cp) (hg0:g = W.heap.size) (hown:OwnE W B v l)
  (hlen:l.length ≤ 1000000) (hB:B ≤ W.heap.size)
  (h:∀ v' W',OwnE W' B v' (l ++ [m]) → Fr (fun k=>v.ownBlock = some k) W W' → (∀ k,v'.ownBlock = some k → v.ownBlock = some k ∨ W.heap.size ≤ k) → wpList Tryz.prog ops Q rest (a.put o.dst v') W') :
  wpList Tryz.prog ops Q (o::rest) a (W.alloc (.cells #[.int .i64 m.kind,.int .i64 m.station,.int .i64 m.number,.string ⟨m.msg.head.toArray⟩,.string ⟨m.msg.text.toArray⟩,.bool m.msg.clear] 62)):=by
 obtain ⟨i0,hi,hz0,hz1,hz2⟩:=info_parts Tryz.infoEv
 subst hg0
 refine wpList_append_foot _ hgd sl x 64 ho B 62 i0 _ 6 64 Tryz.underlying64 hi hz0 hz1 hz2 rfl (by decide) v l.length (ecells l) hs (World.ownsRow.alloc hown _) ⟨W.heap.size,0,none⟩ 1 cp (evCells (some m)) hx rfl
  (cells_new _ _ _) (by intro u hu; simp [evCells] at hu; rcases hu with rfl | rfl | rfl | rfl | rfl | rfl <;> rfl) (by unfold maxLen; omega) (by omega) (by simp; omega) ?_
 intro v' W' ho' hg hk
 refine h v' W' ?_ ⟨hg.os,hg.tape,hg.output,by have:=hg.size; simp at this; omega,fun k hk2 hn=>?_⟩ (fun k h1=>(hk k h1).imp id (fun h2=>by simp at h2; omega))
 ·unfold OwnE
  rw [show ecells (l ++ [m]) = ecells l ++ evCells (some m) by simp [ecells],List.length_append]
  exact ho'
 ·rw [hg.block k (by simp; omega) (fun e=>hn e.symm)]
  exact Below.heap_alloc _ _ _ hk2
end
theorem act_kind {A:Ans} {c:Cfg} {s:PS} {e:Ev} (h:(act A c s).2 = some e):e.kind ≠ 0:=by
 have fin:∀ (k:Nat) (s:PS) (e:Ev),k ≠ 0 → (finish k s).2 = some e → e.kind ≠ 0:=by
  intro k s e hk h
  simp only [finish,Option.some.injEq] at h
  subst h
  exact hk
 have off:∀ (s:PS) (e:Ev),(putOff c s).2 = some e → e.kind ≠ 0:=by
  intro s e h
  unfold putOff at h
  split at h
  ·exact fin 3 _ e (by omega) h
  ·cases h
 have tr:∀ (k:Nat) (s:PS) (e:Ev),(tryAgain k c s).2 = some e → e.kind ≠ 0:=by
  intro k s e h
  unfold tryAgain at h
  split at h
  ·exact fin 3 _ e (by omega) h
  ·cases h
 unfold act at h
 split at h
 ·unfold actBidding at h
  split at h
  ·cases h
  ·split at h
   ·exact off _ _ h
   ·split at h
    ·cases h
    ·split at h
     ·exact tr _ _ _ h
     ·cases h
 ·split at h
  ·unfold actSending at h
   split at h
   ·unfold sendNext at h
    split at h
    ·exact fin 2 _ e (by omega) h
    ·cases h
   ·split at h
    ·unfold sendAgain at h
     split at h
     ·exact fin 3 _ e (by omega) h
     ·cases h
    ·split at h
     ·exact off _ _ h
     ·split at h
      ·exact tr _ _ _ h
      ·cases h
  ·split at h
   ·unfold actReceiving at h
    split at h
    ·unfold receive at h
     split at h
     ·cases h
     ·split at h
      ·simp only [Option.some.injEq] at h
       subst h
       show (1:Nat) ≠ 0
       omega
      ·cases h
    ·split at h
     ·cases h
     ·split at h
      ·cases h
      ·split at h
       ·cases h
       ·split at h <;> cases h
   ·cases h
def ActCells (W:World) (b g:Nat) (c:Cfg) (v0 v1 v2 v3 v4:Value):Prop:=(W.cell? ⟨g,0,none⟩ = some v0 ∧ W.cell? ⟨g,1,none⟩ = some v1 ∧ W.cell? ⟨g,2,none⟩ = some v2 ∧ W.cell? ⟨g,3,none⟩ = some v3 ∧ W.cell? ⟨g,4,none⟩ = some v4) ∧ CfgL W b c
theorem six_cell {W:World} {g8 b j:Nat} (u0 u1 u2 u3 u4 u5:Value) (h:g8 ≠ b):((((((W.setCell ⟨g8,0,none⟩ u0).setCell ⟨g8,1,none⟩ u1).setCell ⟨g8,2,none⟩ u2).setCell ⟨g8,3,none⟩ u3).setCell ⟨g8,4,none⟩ u4).setCell ⟨g8,5,none⟩ u5).cell? ⟨b,j,none⟩ = W.cell? ⟨b,j,none⟩:=by
 rw [World.cell?_setCell_other _ _ _ _ (fun e=>h (congrArg Addr.block e)),World.cell?_setCell_other _ _ _ _ (fun e=>h (congrArg Addr.block e)),World.cell?_setCell_other _ _ _ _ (fun e=>h (congrArg Addr.block e)),World.cell?_setCell_other _ _ _ _ (fun e=>h (congrArg Addr.block e)),World.cell?_setCell_other _ _ _ _ (fun e=>h (congrArg Addr.block e)),World.cell?_setCell_other _ _ _ _ (fun e=>h (congrArg Addr.block e))]
theorem six_block {W:World} {g8 k:Nat} (u0 u1 u2 u3 u4 u5:Value) (h:k ≠ g8):((((((W.setCell ⟨g8,0,none⟩ u0).setCell ⟨g8,1,none⟩ u1).setCell ⟨g8,2,none⟩ u2).setCell ⟨g8,3,none⟩ u3).setCell ⟨g8,4,none⟩ u4).setCell ⟨g8,5,none⟩ u5).heap[k]? = W.heap[k]?:=by
 rw [Below.heap_setCell _ _ _ _ (by simpa using h),Below.heap_setCell _ _ _ _ (by simpa using h),Below.heap_setCell _ _ _ _ (by simpa using h),Below.heap_setCell _ _ _ _ (by simpa using h),Below.heap_setCell _ _ _ _ (by simpa using h),Below.heap_setCell _ _ _ _ (by simpa using h)]
theorem ActCells.six {W:World} {b g g8:Nat} {c:Cfg} {v0 v1 v2 v3 v4:Value} (h:ActCells W b g c v0 v1 v2 v3 v4) (h1:g8 ≠ g) (h2:g8 ≠ b) (u0 u1 u2 u3 u4 u5:Value):ActCells ((((((W.setCell ⟨g8,0,none⟩ u0).setCell ⟨g8,1,none⟩ u1).setCell ⟨g8,2,none⟩ u2).setCell ⟨g8,3,none⟩ u3).setCell ⟨g8,4,none⟩ u4).setCell ⟨g8,5,none⟩ u5) b g c v0 v1 v2 v3 v4:=by
 obtain ⟨⟨a0,a1,a2,a3,a4⟩,hc⟩:=h
 exact ⟨⟨(six_cell _ _ _ _ _ _ h1).trans a0,(six_cell _ _ _ _ _ _ h1).trans a1,(six_cell _ _ _ _ _ _ h1).trans a2,(six_cell _ _ _ _ _ _ h1).trans a3,(six_cell _ _ _ _ _ _ h1).trans a4⟩,hc.keep fun i _=>six_cell _ _ _ _ _ _ h2⟩
/-- Behind what station 1 did. -/
def Acted1 (W10:World) (F1:Nat → Prop) (b g8:Nat) (r:PS × Option Ev) (T:Act → Prop) (a:Act) (W:World):Prop :=
 T a ∧ ∃ (w2:World) (ek est en:Int) (eh et:ByteArray) (ec:Bool),Bes b 25 W10 w2 ∧ StAt w2 (Plus F1 W10) b 25 r.1 ∧ evV r.2 = .agg #[.int .i64 ek,.int .i64 est,.int .i64 en,.string eh,.string et,.bool ec] ∧ W = ((((((w2.setCell ⟨g8,0,none⟩ (.int .i64 ek)).setCell ⟨g8,1,none⟩ (.int .i64 est)).setCell ⟨g8,2,none⟩ (.int .i64 en)).setCell ⟨g8,3,none⟩ (.string eh)).setCell ⟨g8,4,none⟩ (.string et)).setCell ⟨g8,5,none⟩ (.bool ec)) ∧ EvAt W g8 (.int .i64 ek) (.int .i64 est) (.int .i64 en) (.string eh) (.string et) (.bool ec)
theorem OwnE.keep' {w w':World} {B:Nat} {v:Value} {l:List Ev} (h:OwnE w B v l) (hb:∀ g,v.ownBlock = some g → w'.heap[g]? = w.heap[g]?):OwnE w' B v l:=by
 obtain ⟨h1,h2⟩:=h
 refine ⟨h1,?_⟩
 rcases h2 with h2 | ⟨g,cap,cur,hv,hB,hh,r⟩
 ·exact Or.inl h2
 ·exact Or.inr ⟨g,cap,cur,hv,hB,(hb g (by rw [hv]; rfl)).trans hh,r⟩
theorem OwnE.mono {w:World} {B B':Nat} {v:Value} {l:List Ev} (h:OwnE w B v l) (hB:B' ≤ B):OwnE w B' v l:=by
 obtain ⟨h1,h2⟩:=h
 refine ⟨h1,?_⟩
 rcases h2 with h2 | ⟨g,cap,cur,hv,hb,r⟩
 ·exact Or.inl h2
 ·exact Or.inr ⟨g,cap,cur,hv,Nat.le_trans hB hb,r⟩
def Lsted1 (w W9 W10 W11:World) (gE:Nat) (l:List Ev) (T:Value → Act → Prop) (a:Act) (W:World):Prop :=
 ∃ v,T v a ∧ OwnE W w.heap.size v l ∧ Fr (fun g=>W9.heap.size ≤ g ∧ g < W10.heap.size) W11 W ∧ (∀ g,v.ownBlock = some g → g = gE ∨ (W9.heap.size ≤ g ∧ g < W10.heap.size) ∨ W11.heap.size ≤ g)
/-- What a tick leaves. -/
def TickPost (w:World) (F:Nat → Prop) (b:Nat) (c:Cfg) (r0 r1:PS × Option Ev) (e:Ending) (w':World):Prop :=
 ∃ v,e = .returned v ∧ OwnE w' w.heap.size v (r0.2.toList ++ r1.2.toList) ∧ LnAt w' (fun g=>Plus F w g ∧ v.ownBlock ≠ some g) b c r0.1 r1.1 ∧ Fr (fun g=>g = b) w w'
theorem os_set (w:World) (a:Addr) (v:Value):(w.setCell a v).os = w.os:=rfl
theorem output_set (w:World) (a:Addr) (v:Value):(w.setCell a v).output = w.output:=rfl
theorem tick_end {w W8 W9 W10 w2 W11 W:World} {F F0 F1:Nat → Prop} {b g8 gE:Nat} {c:Cfg} {s0 s1:PS} {v:Value} {u0 u1 u2 u3 u4 u5:Value}
  (hbw:b < w.heap.size) (hF0:∀ g,F0 g → F g ∧ g < w.heap.size) (hF1:∀ g,F1 g → F g ∧ g < w.heap.size) (hF01:∀ g,F0 g → ¬ F1 g) (own:F b) (nb1:¬ F1 b)
  (fr8:Fr (fun g=>g = b) w W8) (cf8:CfgL W8 b c) (S9:StAt W9 (fun x=>Plus F0 W8 x ∧ x ≠ g8) b 10 s0) (B9:Bes b 10 W8 W9) (hg8:W8.heap.size ≤ g8) (hg8':g8 < W9.heap.size) (hb10:Below W9.heap.size W9 W10) (hb2:Bes b 25 W10 w2) (h2:StAt w2 (Plus F1 W10) b 25 s1)
  (hW11:W11 = ((((((w2.setCell ⟨g8,0,none⟩ u0).setCell ⟨g8,1,none⟩ u1).setCell ⟨g8,2,none⟩ u2).setCell ⟨g8,3,none⟩ u3).setCell ⟨g8,4,none⟩ u4).setCell ⟨g8,5,none⟩ u5)) (fr:Fr (fun g=>W9.heap.size ≤ g ∧ g < W10.heap.size) W11 W) (hv:∀ g,v.ownBlock = some g → g = gE ∨ (W9.heap.size ≤ g ∧ g < W10.heap.size) ∨ W11.heap.size ≤ g) (hgE:w.heap.size ≤ gE ∧ gE < W8.heap.size) :
  LnAt W (fun g=>Plus F w g ∧ v.ownBlock ≠ some g) b c s0 s1 ∧ Fr (fun g=>g = b) w W:=by
 have z8:=fr8.size
 have z9:=B9.size
 have z10:=hb10.size
 have z2:=hb2.size
 have zf:=fr.size
 have z11:W11.heap.size = w2.heap.size:=by rw [hW11]; simp
 have hn8:g8 ≠ b:=by omega
 have c11:∀ j,W11.cell? ⟨b,j,none⟩ = w2.cell? ⟨b,j,none⟩:=fun j=>by rw [hW11]; exact six_cell _ _ _ _ _ _ hn8
 have f11:∀ j,W11.frozen? ⟨b,j,none⟩ = w2.frozen? ⟨b,j,none⟩:=fun j=>by rw [hW11]; simp
 have k11:∀ k,k ≠ g8 → W11.heap[k]? = w2.heap[k]?:=fun k hk=>by rw [hW11]; exact six_block _ _ _ _ _ _ hk
 have bW:W.heap[b]? = W11.heap[b]?:=fr.block b (by omega) (fun x=>by omega)
 have cW:∀ j,W.cell? ⟨b,j,none⟩ = W11.cell? ⟨b,j,none⟩:=fun j=>World.cell?_of_block bW
 have fW:∀ j,W.frozen? ⟨b,j,none⟩ = W11.frozen? ⟨b,j,none⟩:=fun j=>World.frozen?_of_block bW
 have T0:StAt W9 (fun g=>Plus F0 W8 g ∧ g ≠ g8 ∧ g < W9.heap.size) b 10 s0:=S9.only (fun g hg hl=>⟨hg.1,hg.2,S9.qlt hl⟩) (fun x=>S9.nb ⟨x.1,x.2.1⟩)
 have T0b:=((T0.below hb10).beside hb2 (by omega))
 have T0c:StAt W11 (fun g=>Plus F0 W8 g ∧ g ≠ g8 ∧ g < W9.heap.size) b 10 s0:=T0b.keep (fun _ _=>c11 _) f11 (fun g hg _=>k11 g hg.2.1)
 have T0d:StAt W (fun g=>Plus F0 W8 g ∧ g ≠ g8 ∧ g < W9.heap.size) b 10 s0:=T0c.keep (fun _ _=>cW _) fW (fun g hg hl=>fr.block g hl (fun x=>by have:=hg.2.2; omega))
 have T1:StAt w2 (fun g=>Plus F1 W10 g ∧ g < w2.heap.size) b 25 s1:=h2.only (fun g hg hl=>⟨hg,h2.qlt hl⟩) (fun x=>x.1.elim nb1 (fun y=>by omega))
 have n18:∀ g,Plus F1 W10 g → g ≠ g8:=by
  rintro g (hg | hg)
  ·have:=(hF1 g hg).2; omega
  ·omega
 have T1c:StAt W11 (fun g=>Plus F1 W10 g ∧ g < w2.heap.size) b 25 s1:=T1.keep (fun _ _=>c11 _) f11 (fun g hg _=>k11 g (n18 g hg.1))
 have T1d:StAt W (fun g=>Plus F1 W10 g ∧ g < w2.heap.size) b 25 s1:=T1c.keep (fun _ _=>cW _) fW (fun g hg hl=>fr.block g hl (fun x=>by rcases hg.1 with y | y; (have:=(hF1 g y).2; omega); omega))
 refine ⟨⟨⟨_,_,T0d,T1d,?_,?_,?_⟩,?_,?_⟩,?_⟩
 ·rintro g ⟨hg,h8,h9⟩
  refine ⟨⟨?_,fun e=>?_⟩,by omega⟩
  ·rcases hg with hg | hg
   ·exact Or.inl (hF0 g hg).1
   ·exact Or.inr (by omega)
  ·rcases hv g e with rfl | h | h
   ·rcases hg with hg | hg
    ·have:=(hF0 _ hg).2; omega
    ·omega
   ·omega
   ·omega
 ·rintro g ⟨hg,h9⟩
  refine ⟨⟨?_,fun e=>?_⟩,by omega⟩
  ·rcases hg with hg | hg
   ·exact Or.inl (hF1 g hg).1
   ·exact Or.inr (by omega)
  ·rcases hv g e with rfl | h | h
   ·rcases hg with hg | hg
    ·have:=(hF1 _ hg).2; omega
    ·omega
   ·rcases hg with hg | hg
    ·have:=(hF1 _ hg).2; omega
    ·omega
   ·omega
 ·rintro g ⟨hg,h8,h9⟩ ⟨hk,_⟩
  rcases hg with hg | hg <;> rcases hk with hk | hk
  ·exact hF01 g hg hk
  ·have:=(hF0 g hg).2; omega
  ·have:=(hF1 g hk).2; omega
  ·omega
 ·exact ((((cf8.bes B9 (by omega)).below hb10 (by omega)).bes hb2 (by omega)).keep (fun i _=>c11 i)).keep (fun i _=>cW i)
 ·refine ⟨Or.inl own,fun e=>?_⟩
  rcases hv b e with h | h | h <;> omega
 ·refine ⟨?_,?_,?_,by omega,fun k hk hn=>?_⟩
  ·rw [fr.os,hW11]; simp only [os_set]; exact hb2.os.trans (hb10.os.trans (B9.os.trans fr8.os))
  ·rw [fr.tape,hW11]; simp only [World.tape_setCell]; exact hb2.tape.trans (hb10.tape.trans (B9.tape.trans fr8.tape))
  ·rw [fr.output,hW11]; simp only [output_set]; exact hb2.output.trans (hb10.output.trans (B9.output.trans fr8.output))
  ·rw [fr.block k (by omega) (fun x=>by omega),k11 k (by omega),hb2.block k (by omega) hn,hb10.block k (by omega),B9.block k (by omega) hn]
   exact fr8.block k hk hn
set_option maxRecDepth 1000000 in
theorem tick_any (F:Nat → Prop) (b:Nat) (c:Cfg) (p0 p1:PS) (w:World) (hc:c.Ok) (h:LnAt w F b c p0 p1) (ho0:PSOk c p0) (ho1:PSOk c p1) (hs0:p0.put.length ≤ 140737488352000) (hs1:p1.put.length ≤ 140737488352000) :
  Calls Tryz.prog 61 #[.pointer (some ⟨b,0,none⟩)] w fun e w'=>TickPost w F b c (act (if p0.put ≠ [] then .none 0 else hear c p1.put) c { p0 with put:=[] }) (act (if p1.put ≠ [] then .none 0 else hear c p0.put) c { p1 with put:=[] }) e w':=by
 have HCK:=hide hc
 have HOwn:=hide h.own
 have hbw:=h.lt
 obtain ⟨F0,F1,s0,s1,hF0,hF1,hF01⟩:=h.sts
 have c14:w.cell? ⟨b,14,none⟩ = some (.string ⟨p0.put.toArray⟩):=s0.put
 have c29:w.cell? ⟨b,29,none⟩ = some (.string ⟨p1.put.toArray⟩):=s1.put
 have cc0:=h.cfg.1
 obtain ⟨A0,HHA0,HA0⟩:∃ A0,Hid (∀ W,Calls Tryz.prog 85 #[.string ⟨p0.put.toArray⟩,.string ⟨p1.put.toArray⟩,.int .i64 c.check] W fun e w'=>HPost A0 W e w') ∧ Hid (A0 = if p0.put ≠ [] then .none 0 else hear c p1.put):=⟨_,fun W=>heard_list c hc p0.put p1.put W hs1,rfl⟩
 obtain ⟨A1,HHA1,HA1⟩:∃ A1,Hid (∀ W,Calls Tryz.prog 85 #[.string ⟨p1.put.toArray⟩,.string ⟨p0.put.toArray⟩,.int .i64 c.check] W fun e w'=>HPost A1 W e w') ∧ Hid (A1 = if p1.put ≠ [] then .none 0 else hear c p0.put):=⟨_,fun W=>heard_list c hc p1.put p0.put W hs0,rfl⟩
 rw [← HA0.out,← HA1.out]
 have S0:=hide s0
 have S1:=hide s1
 have CF:=hide h.cfg
 have HF0:=hide hF0
 have HF1:=hide hF1
 have HF01:=hide hF01
 clear h s0 s1 hF0 hF1 hF01 hc
 go_enter Tryz.func61,Tryz.ntmps61
 go_wp2_with fail
 refine region_via (HReg w b A0 (Tk5 b)) ?_ ?_
 ·go_region_held3 (fun W=>Below w.heap.size w W ∧ W.cell? ⟨b,14,none⟩ = some (.string ⟨p0.put.toArray⟩) ∧ W.cell? ⟨b,29,none⟩ = some (.string ⟨p1.put.toArray⟩) ∧ W.cell? ⟨b,0,none⟩ = some (.int .i64 c.check)) ((refine tick_cells c14 c29 cc0 ?_; repeat' (with_reducible (first | apply Below.drew | apply below_drewN | apply Below.allocN | (refine Below.setN ?_ (by omega) _ _) | exact Below.refl _ _ | refine below_step ?_ hb2))))
   (first | (go_at_call 85; refine (HHA0.out _).mono ?_; rintro e w2 ⟨x,rfl,HV,hb2⟩; obtain ⟨hd,a,n,cap,cl,la,hxe⟩:=(HV b (by simp; omega)).form; rw [hxe]; first | (have Z:HrdAt w2 w.heap.size (.int .i64 0) (.string ⟨#[]⟩) (.slice none 0 0) (.bool false) (.bool false):=HrdAt.below (HrdAt.atD rfl _ _ _ _ _) hb2 (by simp); have z:=Z.cell; have z0:=z.1; have z1:=z.2.1; have z2:=z.2.2.1; have z3:=z.2.2.2.1; have z4:=z.2.2.2.2; have y0:=Z.free 0; have y1:=Z.free 1; have y2:=Z.free 2; have y3:=Z.free 3; have y4:=Z.free 4) | skip))
  ·refine ⟨rfl,w2.heap.size,⟨rfl,rfl⟩,Below.allocN (below_drew_head hb2) _,hbox1 (W0:=w.drew) hxe HV (by simpa using hbw),by have:=hb2.size; simpa using this⟩
  ·have hb3:Below w.heap.size w w2:=(Below.drew (Below.allocN (Below.refl _ _) _)).trans (hb2.mono (by simp))
   refine ⟨rfl,w.heap.size,⟨rfl,rfl⟩,Below.setN (Below.setN (Below.setN (Below.setN (Below.setN hb3 (Nat.le_refl _) _ _) (Nat.le_refl _) _ _) (Nat.le_refl _) _ _) (Nat.le_refl _) _ _) (Nat.le_refl _) _ _,hbox2 hxe HV (by simp; omega) (by simp) Z,Nat.le_refl _⟩
 rintro a' W3 ⟨g5,htk,hb3,X5,hg5⟩
 obtain ⟨u,rfl⟩:=htk.use
 have HX5:=hide X5
 have HB3:=hide hb3
 have S3:=hide (S0.out.below hb3)
 have d14:=(hb3.cell (p:=⟨b,14,none⟩) hbw).trans c14
 have d29:=(hb3.cell (p:=⟨b,29,none⟩) hbw).trans c29
 have dd0:=(hb3.cell (p:=⟨b,0,none⟩) hbw).trans cc0
 have hsz:=hb3.size
 clear c14 c29 cc0 X5 hb3 htk
 have hbW:b < W3.heap.size:=by omega
 go_wp2_with fail
 refine region_via (HReg W3 b A1 (Tk6 b g5)) ?_ ?_
 ·go_region_held3 (fun W=>Below W3.heap.size W3 W ∧ W.cell? ⟨b,14,none⟩ = some (.string ⟨p0.put.toArray⟩) ∧ W.cell? ⟨b,29,none⟩ = some (.string ⟨p1.put.toArray⟩) ∧ W.cell? ⟨b,0,none⟩ = some (.int .i64 c.check)) ((refine tick_cells d14 d29 dd0 ?_; repeat' (with_reducible (first | apply Below.drew | apply below_drewN | apply Below.allocN | (refine Below.setN ?_ (by omega) _ _) | exact Below.refl _ _ | refine below_step ?_ hb2))))
   (first | (go_at_call 85; refine (HHA1.out _).mono ?_; rintro e w2 ⟨x,rfl,HV,hb2⟩; obtain ⟨hd,a,n,cap,cl,la,hxe⟩:=(HV b (by simp; omega)).form; rw [hxe]; first | (have Z:HrdAt w2 W3.heap.size (.int .i64 0) (.string ⟨#[]⟩) (.slice none 0 0) (.bool false) (.bool false):=HrdAt.below (HrdAt.atD rfl _ _ _ _ _) hb2 (by simp); have z:=Z.cell; have z0:=z.1; have z1:=z.2.1; have z2:=z.2.2.1; have z3:=z.2.2.2.1; have z4:=z.2.2.2.2; have y0:=Z.free 0; have y1:=Z.free 1; have y2:=Z.free 2; have y3:=Z.free 3; have y4:=Z.free 4) | skip))
  ·refine ⟨rfl,w2.heap.size,⟨rfl,rfl⟩,Below.allocN (below_drew_head hb2) _,hbox1 (W0:=W3.drew) hxe HV (by simpa using hbW),by have:=hb2.size; simpa using this⟩
  ·have hb3:Below W3.heap.size W3 w2:=(Below.drew (Below.allocN (Below.refl _ _) _)).trans (hb2.mono (by simp))
   refine ⟨rfl,W3.heap.size,⟨rfl,rfl⟩,Below.setN (Below.setN (Below.setN (Below.setN (Below.setN hb3 (Nat.le_refl _) _ _) (Nat.le_refl _) _ _) (Nat.le_refl _) _ _) (Nat.le_refl _) _ _) (Nat.le_refl _) _ _,hbox2 hxe HV (by simp; omega) (by simp) Z,Nat.le_refl _⟩
 clear HHA0 HHA1
 rintro a' W4 ⟨g6,htk,hb4,X6,hg6⟩
 obtain ⟨u,rfl⟩:=htk.use
 have HX6:=hide X6
 have HB4:=hide hb4
 have HX5':=hide (HX5.out.below hb4)
 have c14':=(S0.out.below (below_step HB3.out hb4)).put
 have c29':=(S1.out.below (below_step HB3.out hb4)).put
 have f14:=(S0.out.below (below_step HB3.out hb4)).fz 14
 have f29:=(S0.out.below (below_step HB3.out hb4)).fz 29
 clear d14 d29 dd0 X6 hb4 htk
 simp only [Nat.reduceAdd] at c14' c29'
 go_wp2_with fail
 refine wp_at (fun W=>Mid w W F0 F1 b g5 g6 W4.heap.size c { p0 with put:=[] } { p1 with put:=[] } A0 A1) (mid_at S0.out S1.out CF.out (below_step HB3.out HB4.out) HX5'.out HX6.out hg5 (by omega)) ?_
 clear c14' c29' f14 f29 S3 HX5 HX6 HX5' CF
 intro W8 M8
 have hsz8:=M8.fr.size
 have hb8:b < W8.heap.size:=by omega
 have hne8:b ≠ W8.heap.size:=by omega
 have hn5:b ≠ g5:=by have:=M8.h5; omega
 have hn6:b ≠ g6:=by have:=M8.h6; omega
 generalize hq0:({ p0 with put:=[] }:PS) = q0 at *
 generalize hq1:({ p1 with put:=[] }:PS) = q1 at *
 have HQ0:=hide hq0
 have HQ1:=hide hq1
 have HO0:Hid (PSOk c q0):=by rw [← hq0]; exact ⟨ho0.qlen,ho0.qj,ho0.jm,ho0.fit,ho0.ne,ho0.tr,ho0.blk,ho0.rcv,ho0.wr⟩
 have HO1:Hid (PSOk c q1):=by rw [← hq1]; exact ⟨ho1.qlen,ho1.qj,ho1.jm,ho1.fit,ho1.ne,ho1.tr,ho1.blk,ho1.rcv,ho1.wr⟩
 generalize hgE:W4.heap.size = gE at *
 obtain ⟨hd5,a5,n5,cap5,cl5,la5,X5,V5⟩:=M8.x5
 have x5c:=X5.cell
 have y50:=x5c.1
 have y51:=x5c.2.1
 have y52:=x5c.2.2.1
 have y53:=x5c.2.2.2.1
 have y54:=x5c.2.2.2.2
 obtain ⟨k0,k1,k2,k3,k4,k5,k6,k7,k8,k9⟩:=M8.cf
 have HX5:=hide X5
 have HV5:=hide V5
 have HCF:=hide M8.cf
 have HS0:=hide M8.s0
 have HM8:=hide M8
 clear M8 X5 V5 x5c hq0 hq1 ho0 ho1 hgE
 refine region_via (Acted W8 F0 b 10 (act A0 c q0) (Tk8 b g5 g6 gE)) ?_ ?_
 ·go_region_held3 (fun W=>Bes b 10 W8 W ∧ (W.cell? ⟨g5,0,none⟩ = some (.int .i64 (kindOf A0:Nat)) ∧ W.cell? ⟨g5,1,none⟩ = some (.string hd5) ∧ W.cell? ⟨g5,2,none⟩ = some (.slice a5 n5 cap5) ∧ W.cell? ⟨g5,3,none⟩ = some (.bool cl5) ∧ W.cell? ⟨g5,4,none⟩ = some (.bool la5)) ∧ (W.cell? ⟨b,0,none⟩ = some (.int .i64 c.check) ∧ W.cell? ⟨b,1,none⟩ = some (.int .i64 c.size) ∧ W.cell? ⟨b,2,none⟩ = some (.int .i64 c.parts) ∧ W.cell? ⟨b,3,none⟩ = some (.int .i64 c.queue) ∧ W.cell? ⟨b,4,none⟩ = some (.int .i64 c.first) ∧ W.cell? ⟨b,5,none⟩ = some (.int .i64 c.second) ∧ W.cell? ⟨b,6,none⟩ = some (.int .i64 c.reply) ∧ W.cell? ⟨b,7,none⟩ = some (.int .i64 c.lost) ∧ W.cell? ⟨b,8,none⟩ = some (.int .i64 c.tries) ∧ W.cell? ⟨b,9,none⟩ = some (.int .i64 c.waits))) ((refine act_cells HX5.out HCF.out hn5 (by omega) ?_; repeat' (with_reducible (first | apply Bes.drew | apply Bes.drewN | (refine Bes.allocN ?_ hb8 _) | (refine Bes.setO ?_ (by omega) hb8 _ _) | exact Bes.refl _ _ _ | refine Bes.trans ?_ hb2))))
   (first | (go_at_call 86; refine (act_any F0 b 10 q0 A0 _ c _ (HS0.out.below ?_) ?_ (HV5.out.below ?_) HCK.out HO0.out).mono ?_; (repeat' (with_reducible (first | apply Below.drew | apply below_drewN | apply Below.allocN | exact Below.refl _ _))); (intro x hx; have:=(HF0.out x hx).2; simp; omega); (repeat' (with_reducible (first | apply Below.drew | apply below_drewN | apply Below.allocN | exact Below.refl _ _))); rintro e w2 ⟨rfl,h2,hb2⟩; obtain ⟨ek,est,en,eh,et,ec,hev⟩:=evV_form (act A0 c q0).2; rw [hev]; first | (have Z:EvAt w2 W8.heap.size (.int .i64 0) (.int .i64 0) (.int .i64 0) (.string ⟨#[]⟩) (.string ⟨#[]⟩) (.bool false):=EvAt.bes (EvAt.atD rfl _ _ _ _ _ _) hb2 hne8; have z:=Z.cell; have z0:=z.1; have z1:=z.2.1; have z2:=z.2.2.1; have z3:=z.2.2.2.1; have z4:=z.2.2.2.2.1; have z5:=z.2.2.2.2.2; have y0:=Z.free 0; have y1:=Z.free 1; have y2:=Z.free 2; have y3:=Z.free 3; have y4:=Z.free 4; have y5:=Z.free 5) | skip))
  ·have b9:=((Bes.refl b 10 W8).drew).trans hb2
   exact ⟨rfl,w2.heap.size,⟨rfl,rfl⟩,⟨ek,est,en,eh,et,ec,hev,EvAt.new rfl _ _ _ _ _ _⟩,(h2.only (G:=fun x=>Plus F0 W8 x ∧ x ≠ w2.heap.size) (fun x hx hl=>⟨hx,fun e=>by have:=h2.qlt hl; omega⟩) (fun x=>h2.nb x.1)).alloc _,b9.allocN hb8 _,b9.size⟩
  ·have b9:=(((Bes.refl b 10 W8).allocN hb8 _).drew).trans hb2
   have kk:=ev_end (g:=W8.heap.size) h2 b9 (Plus.sub (by simp)) (plus_ne (w:=W8) (fun x hx=>by have:=(HF0.out x hx).2; omega) (Nat.le_refl _) (by simp)) (Nat.le_refl _) hb8 HS0.out.nb (.int .i64 ek) (.int .i64 est) (.int .i64 en) (.string eh) (.string et) (.bool ec)
   have kq:∀ y,((((((w2.setCell ⟨W8.heap.size,0,none⟩ (.int .i64 ek)).setCell ⟨W8.heap.size,1,none⟩ (.int .i64 est)).setCell ⟨W8.heap.size,2,none⟩ (.int .i64 en)).setCell ⟨W8.heap.size,3,none⟩ (.string eh)).setCell ⟨W8.heap.size,4,none⟩ (.string et)).setCell ⟨W8.heap.size,5,none⟩ (.bool ec)).cell? ⟨b,10 + 1,none⟩ = some y → y.ownBlock ≠ some W8.heap.size:=by
    intro y hy e
    rw [World.cell?_setCell_other _ _ _ _ (fun e=>hne8 (congrArg Addr.block e).symm),World.cell?_setCell_other _ _ _ _ (fun e=>hne8 (congrArg Addr.block e).symm),World.cell?_setCell_other _ _ _ _ (fun e=>hne8 (congrArg Addr.block e).symm),World.cell?_setCell_other _ _ _ _ (fun e=>hne8 (congrArg Addr.block e).symm),World.cell?_setCell_other _ _ _ _ (fun e=>hne8 (congrArg Addr.block e).symm),World.cell?_setCell_other _ _ _ _ (fun e=>hne8 (congrArg Addr.block e).symm)] at hy
    obtain ⟨q,hq,hQ⟩:=h2.que
    rw [hq] at hy
    cases hy
    exact plus_ne (w:=W8) (fun x hx=>by have:=(HF0.out x hx).2; omega) (Nat.le_refl _) (by simp) _ (hQ.2 _ e) rfl
   exact ⟨rfl,W8.heap.size,⟨rfl,rfl⟩,⟨ek,est,en,eh,et,ec,hev,EvAt.all Z⟩,kk.1.only (fun x hx hl=>⟨hx,fun e=>by obtain ⟨y,hy,hye⟩:=hl; exact kq y hy (by rw [hye,e])⟩) (fun x=>kk.1.nb x.1),kk.2,Nat.le_refl _⟩
 rintro a' W9 ⟨g8,htk,E9,S9,B9,hg8⟩
 obtain ⟨u,rfl⟩:=htk.use
 clear htk y50 y51 y52 y53 y54 k0 k1 k2 k3 k4 k5 k6 k7 k8 k9
 go_step
 go_step
 go_step
 refine code_via (Lsted W9 gE (act A0 c q0).2.toList (fun v=>Tk10 b g6 g8 v)) ?_ ?_
 ·obtain ⟨ek,est,en,eh,et,ec,hev,X9⟩:=E9
  have x9:=X9.cell
  have x90:=x9.1
  have x91:=x9.2.1
  have x92:=x9.2.2.1
  have x93:=x9.2.2.2.1
  have x94:=x9.2.2.2.2.1
  have x95:=x9.2.2.2.2.2
  clear x9
  cases hr:(act A0 c q0).2 with
  | none =>
   rw [hr] at hev
   have e0:ek = 0:=by simp [evV] at hev; exact hev.1.symm
   subst e0
   clear hev
   go_wp2
   (try simp only [Exit.inBlock,Exit.then])
   exact ⟨_,⟨rfl,rfl⟩,Or.inl ⟨rfl,rfl⟩,Below.refl _ _⟩
  | some ev =>
   rw [hr] at hev
   have hk0:=act_kind hr
   have hki:¬ (ev.kind:Int) = 0:=by omega
   simp only [evV,Value.agg.injEq,Array.mk.injEq,List.cons.injEq,Value.int.injEq,Value.string.injEq,Value.bool.injEq,true_and,and_true] at hev
   obtain ⟨rfl,rfl,rfl,rfl,rfl,rfl⟩:=hev
   go_wp2_with (at_builtin; refine app_ev0 W9 ev rfl (.tmp 62) (.tmp 64) rfl gE _ 1 rfl rfl rfl ?_; intro v' W' hown' hbel')
   (try simp only [Exit.inBlock,Exit.then])
   exact ⟨v',⟨rfl,rfl⟩,Or.inr ⟨by simp,hown'⟩,hbel'⟩
 rintro a' W10 ⟨v,htk,hl10,hb10⟩
 obtain ⟨u,rfl⟩:=htk.use
 clear htk
 obtain ⟨ek8,est8,en8,eh8,et8,ec8,hev8,X8⟩:=E9
 have hsz9:=B9.size
 have hsz10:=hb10.size
 have hn8b:g8 ≠ b:=by omega
 have hl6:=HM8.out.x6.lt
 have hn86:g8 ≠ g6:=by omega
 have HS1:=hide ((HM8.out.s1.beside B9 (by omega)).below hb10)
 have HCF6:=hide ((HCF.out.bes B9 (by omega)).below hb10 (by omega))
 have HX8:=hide (X8.below hb10)
 obtain ⟨hd6,a6,n6,cap6,cl6,la6,X6,V6⟩:=((HM8.out.x6.bes B9 hn6).below hb10)
 have HX6:=hide X6
 have HV6:=hide V6
 have HS9:=hide S9
 have hg89':=X8.lt
 have HB9:=hide B9
 have HB10:=hide hb10
 have HL10:=hide hl10
 have x6c:=X6.cell
 have y60:=x6c.1
 have y61:=x6c.2.1
 have y62:=x6c.2.2.1
 have y63:=x6c.2.2.2.1
 have y64:=x6c.2.2.2.2
 obtain ⟨k0,k1,k2,k3,k4,k5,k6,k7,k8,k9⟩:=HCF6.out
 clear X8 X6 V6 x6c S9 B9 hb10 hl10 hev8
 go_wp2_with fail
 refine region_via (Acted1 W10 F1 b g8 (act A1 c q1) (Tk11 b g8 v)) ?_ ?_
 ·go_region_held3 (fun W=>(W.cell? ⟨g6,0,none⟩ = some (.int .i64 (kindOf A1:Nat)) ∧ W.cell? ⟨g6,1,none⟩ = some (.string hd6) ∧ W.cell? ⟨g6,2,none⟩ = some (.slice a6 n6 cap6) ∧ W.cell? ⟨g6,3,none⟩ = some (.bool cl6) ∧ W.cell? ⟨g6,4,none⟩ = some (.bool la6)) ∧ (W.cell? ⟨b,0,none⟩ = some (.int .i64 c.check) ∧ W.cell? ⟨b,1,none⟩ = some (.int .i64 c.size) ∧ W.cell? ⟨b,2,none⟩ = some (.int .i64 c.parts) ∧ W.cell? ⟨b,3,none⟩ = some (.int .i64 c.queue) ∧ W.cell? ⟨b,4,none⟩ = some (.int .i64 c.first) ∧ W.cell? ⟨b,5,none⟩ = some (.int .i64 c.second) ∧ W.cell? ⟨b,6,none⟩ = some (.int .i64 c.reply) ∧ W.cell? ⟨b,7,none⟩ = some (.int .i64 c.lost) ∧ W.cell? ⟨b,8,none⟩ = some (.int .i64 c.tries) ∧ W.cell? ⟨b,9,none⟩ = some (.int .i64 c.waits))) ((first | (with_reducible exact (act_cells HX6.out HCF6.out hn6 (by omega:10 ≤ 25) ((Bes.refl b 25 W10).drew)).2) | (with_reducible exact (act_cells HX6.out HCF6.out hn6 (by omega:10 ≤ 25) (((Bes.refl b 25 W10).drew).trans hb2)).2) | exact ActCells.six (act_cells HX6.out HCF6.out hn6 (by omega:10 ≤ 25) (((Bes.refl b 25 W10).drew).trans hb2)).2 hn86 hn8b _ _ _ _ _ _))
   (first | (go_at_call 86; refine (act_any F1 b 25 q1 A1 _ c _ (HS1.out.below ?_) ?_ (HV6.out.below ?_) HCK.out HO1.out).mono ?_; (repeat' (with_reducible (first | apply Below.drew | apply below_drewN | apply Below.allocN | exact Below.refl _ _))); (intro x hx; have:=(HF1.out x hx).2; simp; omega); (repeat' (with_reducible (first | apply Below.drew | apply below_drewN | apply Below.allocN | exact Below.refl _ _))); rintro e w2 ⟨rfl,h2,hb2⟩; obtain ⟨ek,est,en,eh,et,ec,hev⟩:=evV_form (act A1 c q1).2; rw [hev]; have Z:=EvAt.bes (HX8.out.drewN 1) hb2 (Ne.symm hn8b); have z:=Z.cell; have z0:=z.1; have z1:=z.2.1; have z2:=z.2.2.1; have z3:=z.2.2.2.1; have z4:=z.2.2.2.2.1; have z5:=z.2.2.2.2.2; have y0:=Z.free 0; have y1:=Z.free 1; have y2:=Z.free 2; have y3:=Z.free 3; have y4:=Z.free 4; have y5:=Z.free 5))
  exact ⟨rfl,⟨rfl,rfl⟩,w2,ek,est,en,eh,et,ec,((Bes.refl b 25 W10).drew).trans hb2,h2,hev,rfl,EvAt.all Z⟩
 rintro a' W11 ⟨htk,w2,ek,est,en,eh,et,ec,hb2,h2,hev,hW11,X11⟩
 obtain ⟨u,rfl⟩:=htk.use
 clear htk y60 y61 y62 y63 y64 k0 k1 k2 k3 k4 k5 k6 k7 k8 k9
 have hEv8:=EvAt.lt HX8.out
 have z2:=hb2.size
 have z11a:W11.heap.size ≤ w2.heap.size:=by rw [hW11]; simp
 have z11b:w2.heap.size ≤ W11.heap.size:=by rw [hW11]; simp
 have k11:∀ k,k ≠ g8 → W11.heap[k]? = w2.heap[k]?:=fun k hk=>by rw [hW11]; exact six_block _ _ _ _ _ _ hk
 have hgE8:gE < W8.heap.size:=(World.ownsRow.lt HM8.out.ge gE rfl).2
 have hgEw:=HM8.out.hE
 have hg89:=hg89'
 have HL11:Hid (((act A0 c q0).2.toList = [] ∧ v = .slice (some ⟨gE,0,none⟩) 0 0 ∧ OwnE W11 gE v []) ∨ ((act A0 c q0).2.toList ≠ [] ∧ OwnE W11 W9.heap.size v (act A0 c q0).2.toList ∧ ∀ g,v.ownBlock = some g → W9.heap.size ≤ g ∧ g < W10.heap.size)):=by
  rcases HL10.out with ⟨hl,rfl⟩ | ⟨hl,ho⟩
  ·refine Or.inl ⟨hl,rfl,HM8.out.ge.keep' fun g hg=>?_⟩
   cases hg
   rw [k11 gE (by omega),hb2.block gE (by omega) (by omega),HB10.out.block gE (by omega),HB9.out.block gE hgE8 (by omega)]
  ·have hk:=World.ownsRow.lt ho
   refine Or.inr ⟨hl,ho.keep' fun g hg=>?_,fun g hg=>hk g hg⟩
   have:=hk g hg
   rw [k11 g (by omega),hb2.block g (by omega) (by omega)]
 have HW11:=hide hW11
 have HB2:=hide hb2
 have H2:=hide h2
 clear hW11 hb2 h2 k11
 go_step
 go_step
 go_step
 refine code_via (Lsted1 w W9 W10 W11 gE ((act A0 c q0).2.toList ++ (act A1 c q1).2.toList) (fun v=>Tk13 b v)) ?_ ?_
 ·have x9:=X11.cell
  have x90:=x9.1
  have x91:=x9.2.1
  have x92:=x9.2.2.1
  have x93:=x9.2.2.2.1
  have x94:=x9.2.2.2.2.1
  have x95:=x9.2.2.2.2.2
  clear x9
  cases hr:(act A1 c q1).2 with
  | none =>
   rw [hr] at hev
   have e0:ek = 0:=by simp [evV] at hev; exact hev.1.symm
   subst e0
   clear hev
   go_wp2
   (try simp only [Exit.inBlock,Exit.then])
   refine ⟨v,⟨rfl,rfl⟩,?_⟩
   rcases HL11.out with ⟨hl,rfl,ho⟩ | ⟨hl,ho,hk⟩
   ·rw [hl]
    exact ⟨ho.mono hgEw,Fr.refl _ _,fun g hg=>by cases hg; exact Or.inl rfl⟩
   ·(try rw [Option.toList_none,List.append_nil])
    exact ⟨ho.mono (by omega),Fr.refl _ _,fun g hg=>Or.inr (Or.inl (hk g hg))⟩
  | some ev =>
   rw [hr] at hev
   have hk0:=act_kind hr
   have hki:¬ (ev.kind:Int) = 0:=by omega
   simp only [evV,Value.agg.injEq,Array.mk.injEq,List.cons.injEq,Value.int.injEq,Value.string.injEq,Value.bool.injEq,true_and,and_true] at hev
   obtain ⟨rfl,rfl,rfl,rfl,rfl,rfl⟩:=hev
   rcases HL11.out with ⟨hl,rfl,ho⟩ | ⟨hl,ho,hk⟩
   ·rw [hl]
    clear ho
    go_wp2_with (at_builtin; refine app_ev0 W11 ev rfl (.tmp 76) (.tmp 78) rfl gE _ 1 rfl rfl rfl ?_; intro v' W' hown' hbel')
    (try simp only [Exit.inBlock,Exit.then])
    exact ⟨v',⟨rfl,rfl⟩,hown'.mono (by omega),Fr.of_below hbel',fun g hg=>Or.inr (Or.inr (World.ownsRow.lt hown' g hg).1)⟩
   ·have HOO:=hide ho
    have HKK:=hide hk
    have hlen:(act A0 c q0).2.toList.length ≤ 1000000:=by cases (act A0 c q0).2 <;> simp
    clear ho hk
    go_wp2_with (at_builtin; refine app_ev1 W11 ev rfl (.tmp 76) (.tmp 78) rfl W9.heap.size _ _ _ 1 rfl rfl rfl HOO.out hlen (by omega) ?_; intro v' W' hown' hfr' hbk')
    (try simp only [Exit.inBlock,Exit.then])
    refine ⟨v',⟨rfl,rfl⟩,hown'.mono (by omega),hfr'.mono (fun g hg=>HKK.out g hg),fun g hg=>?_⟩
    rcases hbk' g hg with h | h
    ·exact Or.inr (Or.inl (HKK.out g h))
    ·exact Or.inr (Or.inr h)
 rintro a' W12 ⟨v',htk,ho12,hf12,hv12⟩
 obtain ⟨u,rfl⟩:=htk.use
 clear htk
 go_wp2
 go_ret
 have kk:=tick_end (v:=v') hbw HF0.out HF1.out HF01.out HOwn.out S1.out.nb HM8.out.fr HCF.out HS9.out HB9.out hg8 hg89 HB10.out HB2.out H2.out HW11.out hf12 hv12 ⟨hgEw,hgE8⟩
 rw [HQ0.out,HQ1.out]
 exact ⟨v',rfl,ho12,kk.1,kk.2⟩
end Go.Proofs.YtlbpjcphhocdkaaGreat
