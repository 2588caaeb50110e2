/- The document's lists of blocks in memory: made by append, then written into. Plain: the blocks of a message, as the document's program makes them. Of no program: a region by the slots that it writes and what it leaves .. -/
import Derived.Test.YtlbpjcphhocdkaaGreatQ03
import Derived.Test.YtlbpjcphhocdkaaGreatQ09
import Derived.Test.YtlbpjcphhocdkaaGreatQ05
import Derived.Test.YtlbpjcphhocdkaaGreatQ02
import Derived.Laws.OwnMore
import Derived.Test.YtlbpjcphhocdkaaGreatQ10
import Derived.Test.YtlbpjcphhocdkaaGreatQ08
set_option maxRecDepth 1000000
set_option maxHeartbeats 16000000
namespace Go.Proofs.YtlbpjcphhocdkaaGreat
open Go.RowKit Go.Proofs.YtlbpjcphhocdkaaGreat.Mod
def bCells (x:(Value × List ByteArray) × Bk):List Value:=[.string ⟨x.2.head.toArray⟩,x.1.1,.bool x.2.clear,.bool x.2.last]
theorem flat_set {α:Type} (f:α → List Value) (hf:∀ x,(f x).length = 4):∀ (L:List α) (k j:Nat) (u:Value) (x y:α),L[k]? = some x → j < 4 → f y = (f x).set j u → ((L.map f).flatten).set (4 * k + j) u = ((L.set k y).map f).flatten
 | [],k,j,u,x,y,h,_,_=>by simp at h
 | a::L,0,j,u,x,y,h,hj,e=>by
  simp only [List.getElem?_cons_zero,Option.some.injEq] at h
  subst h
  simp only [List.map_cons,List.flatten_cons,List.set_cons_zero,e]
  rw [List.set_append_left _ _ (by rw [hf]; omega)]
  simp
 | a::L,k + 1,j,u,x,y,h,hj,e=>by
  simp only [List.map_cons,List.flatten_cons,List.set_cons_succ]
  rw [List.set_append_right _ _ (by rw [hf]; omega),hf,show 4 * (k + 1) + j - 4 = 4 * k + j by omega]
  rw [flat_set f hf L k j u x y (by simpa using h) hj e]
theorem flat_get {α:Type} (f:α → List Value) (hf:∀ x,(f x).length = 4):∀ (L:List α) (k j:Nat) (x:α),L[k]? = some x → j < 4 → ((L.map f).flatten)[4 * k + j]? = (f x)[j]?
 | [],k,j,x,h,_=>by simp at h
 | a::L,0,j,x,h,hj=>by
  simp only [List.getElem?_cons_zero,Option.some.injEq] at h
  subst h
  simp only [List.map_cons,List.flatten_cons]
  rw [List.getElem?_append_left (by rw [hf]; omega)]
  simp
 | a::L,k + 1,j,x,h,hj=>by
  simp only [List.map_cons,List.flatten_cons]
  rw [List.getElem?_append_right (by rw [hf]; omega),hf,show 4 * (k + 1) + j - 4 = 4 * k + j by omega]
  exact flat_get f hf L k j x (by simpa using h) hj
theorem bCells_len (x:(Value × List ByteArray) × Bk):(bCells x).length = 4:=rfl
theorem zip_get {α β:Type} {l:List α} {r:List β} {k:Nat} {x:α} {y:β} (h1:l[k]? = some x) (h2:r[k]? = some y):(l.zip r)[k]? = some (x,y):=by
 rw [List.getElem?_zip_eq_some]; exact ⟨h1,h2⟩
/-- A list of blocks,its row in a block of its own,apart from the texts'. -/
structure GOwn (w:World) (F:Nat → Prop) (v:Value) (vs:List (Value × List ByteArray)) (l:List Bk):Prop where
 len:vs.length = l.length
 row:w.ownsRow 0 57 4 v l.length ((vs.zip l).map bCells).flatten
 foot:∀ g,v.ownBlock = some g → F g
 part:∀ k (hk:k < l.length),∃ x,vs[k]? = some x ∧ w.ownsRow 0 9 1 x.1 x.2.length (x.2.map Value.string) ∧ (∀ g,x.1.ownBlock = some g → F g) ∧ datas x.2 = l[k].parts ∧ (x.1.ownBlock = none ∨ x.1.ownBlock ≠ v.ownBlock)
section
variable {w w':World} {F G:Nat → Prop} {v:Value} {vs:List (Value × List ByteArray)} {l:List Bk}
theorem GOwn.nil (w:World) (F:Nat → Prop):GOwn w F (.slice none 0 0) [] []:=⟨rfl,World.ownsRow_nil w 0 _ _,fun g hg=>(by cases hg),fun k hk=>absurd hk (Nat.not_lt_zero k)⟩
theorem GOwn.at' (h:GOwn w F v vs l):GAt w F v l:=by
 refine ⟨vs,h.len,h.row,h.foot,fun k hk=>?_⟩
 obtain ⟨x,a,b,c,d,_⟩:=h.part k hk
 exact ⟨x,a,b,c,d⟩
theorem GOwn.keep (h:GOwn w F v vs l) (hb:∀ g,F g → g < w.heap.size → w'.heap[g]? = w.heap[g]?):GOwn w' F v vs l:=by
 refine ⟨h.len,row_keep h.row (fun g hg hl=>hb g (h.foot g hg) hl),h.foot,fun k hk=>?_⟩
 obtain ⟨x,a,b,c,d,e⟩:=h.part k hk
 exact ⟨x,a,row_keep b (fun g hg hl=>hb g (c g hg) hl),c,d,e⟩
theorem GOwn.below (h:GOwn w F v vs l) (hb:Below w.heap.size w w'):GOwn w' F v vs l:=h.keep fun g _ hg=>hb.block g hg
theorem GOwn.mono (h:GOwn w F v vs l) (hG:∀ g,F g → G g):GOwn w G v vs l:=by
 refine ⟨h.len,h.row,fun g hg=>hG g (h.foot g hg),fun k hk=>?_⟩
 obtain ⟨x,a,b,c,d,e⟩:=h.part k hk
 exact ⟨x,a,b,fun g hg=>hG g (c g hg),d,e⟩
theorem GOwn.form (h:GOwn w F v vs l):∃ a cap,v = .slice a l.length cap:=by
 rcases h.row.2 with ⟨rfl,h0⟩ | ⟨g,cap,cur,rfl,_⟩
 ·exact ⟨none,0,by rw [h0]⟩
 ·exact ⟨_,cap,rfl⟩
theorem GOwn.has (h:GOwn w F v vs l) (hn:0 < l.length):∃ g cap,v = .slice (some ⟨g,0,none⟩) l.length cap ∧ F g ∧ g < w.heap.size:=by
 rcases h.row.2 with ⟨rfl,h0⟩ | ⟨g,cap,cur,rfl,_,hh,_⟩
 ·omega
 ·exact ⟨g,cap,rfl,h.foot g rfl,lt_of_block hh⟩
/-- One more. -/
theorem GOwn.app (h:GOwn w F v vs l) {v':Value} {x:Value × List ByteArray} {b:Bk} (hr:w'.ownsRow 0 57 4 v' (l.length + 1) (((vs.zip l).map bCells).flatten ++ bCells (x,b))) (hg:w.grownBy w' v.ownBlock) (hf:∀ g,v'.ownBlock = some g → v.ownBlock = some g ∨ w.heap.size ≤ g)
  (hG:∀ g,F g ∨ w.heap.size ≤ g → G g) (hx:w.ownsRow 0 9 1 x.1 x.2.length (x.2.map Value.string)) (hxF:∀ g,x.1.ownBlock = some g → F g) (hd:datas x.2 = b.parts) (hne:x.1.ownBlock = none ∨ x.1.ownBlock ≠ v.ownBlock):GOwn w' G v' (vs ++ [x]) (l ++ [b]):=by
 have far:∀ y:Value × List ByteArray,w.ownsRow 0 9 1 y.1 y.2.length (y.2.map Value.string) → (y.1.ownBlock = none ∨ y.1.ownBlock ≠ v.ownBlock) → (y.1.ownBlock = none ∨ y.1.ownBlock ≠ v'.ownBlock):=by
  intro y hy hn
  rcases hn with hn | hn
  ·exact Or.inl hn
  ·cases e:y.1.ownBlock with
   | none=>exact Or.inl rfl
   | some g =>
    right
    intro z
    rcases hf g z.symm with q | q
    ·exact hn (e.trans q.symm)
    ·have:=(World.ownsRow.lt hy g e).2
     omega
 refine ⟨by simp [h.len],?_,fun g hg'=>hG g ((hf g hg').imp (h.foot g) id),fun k hk=>?_⟩
 ·rw [List.zip_append h.len]
  simpa using hr
 ·rcases Nat.lt_or_ge k l.length with hk' | hk'
  ·obtain ⟨y,a1,a2,a3,a4,a5⟩:=h.part k hk'
   refine ⟨y,?_,World.ownsRow.kept a2 hg a5,fun g z=>hG g (Or.inl (a3 g z)),?_,far y a2 a5⟩
   ·rw [List.getElem?_append_left (by rw [h.len]; exact hk')]; exact a1
   ·rw [List.getElem_append_left hk']; exact a4
  ·have ek:k = l.length:=by rw [List.length_append,List.length_singleton] at hk; omega
   subst ek
   refine ⟨x,?_,World.ownsRow.kept hx hg hne,fun g z=>hG g (Or.inl (hxF g z)),?_,far x hx hne⟩
   ·rw [List.getElem?_append_right (Nat.le_of_eq h.len),h.len]; simp
   ·simp [hd]
/-- A field of one of them is written. -/
theorem GOwn.put {g cap:Nat} (h:GOwn w F (.slice (some ⟨g,0,none⟩) l.length cap) vs l) {k j:Nat} {u:Value} (hk:k < l.length) (hj:j < 4) (b:Bk) (hb:b.parts = l[k].parts) (hu:∀ x,bCells (x,b) = (bCells (x,l[k])).set j u) :
  GOwn (w.setCell ⟨g,4 * k + j,none⟩ u) F (.slice (some ⟨g,0,none⟩) l.length cap) vs (l.set k b):=by
 obtain ⟨x,a1,_⟩:=h.part k hk
 have hz:=zip_get a1 (List.getElem?_eq_getElem hk)
 have hst:=(World.ownsRow.stored h.row (4 * k + j) u).1
 rw [flat_set bCells bCells_len _ k j u _ (x,b) hz hj (hu x)] at hst
 have hzz:(vs.zip l).set k (x,b) = vs.zip (l.set k b):=by
  apply List.ext_getElem?
  intro i
  rw [List.getElem?_set]
  by_cases hi:k = i
  ·subst hi
   rw [if_pos rfl]
   have l1:k < (vs.zip l).length:=by have:=h.len; simp; omega
   rw [if_pos l1]
   exact (zip_get a1 (by simp [hk])).symm
  ·rw [if_neg hi]
   rw [List.zip_eq_zipWith,List.zip_eq_zipWith,List.getElem?_zipWith,List.getElem?_zipWith,List.getElem?_set_ne hi]
 rw [hzz] at hst
 rw [show l.length = (l.set k b).length by simp] at hst ⊢
 refine ⟨by simp [h.len],hst,h.foot,fun i hi=>?_⟩
 have hi':i < l.length:=by simpa using hi
 obtain ⟨y,b1,b2,b3,b4,b5⟩:=h.part i hi'
 refine ⟨y,b1,row_keep b2 (fun q hq _=>Below.heap_setCell _ _ _ _ ?_),b3,?_,b5⟩
 ·intro e
  rcases b5 with z | z
  ·rw [hq] at z; cases z
  ·apply z; rw [hq,e]; rfl
 ·rw [b4]
  by_cases hik:k = i
  ·subst hik; simp [hb]
  ·simp [List.getElem_set_ne hik]
theorem GAt.row (h:GAt w F v l):∃ vs:List (Value × List ByteArray),vs.length = l.length ∧ w.ownsRow 0 57 4 v l.length ((vs.zip l).map bCells).flatten ∧ (∀ g,v.ownBlock = some g → F g) ∧ ∀ k (hk:k < l.length),∃ x,vs[k]? = some x ∧ w.ownsRow 0 9 1 x.1 x.2.length (x.2.map Value.string) ∧ (∀ g,x.1.ownBlock = some g → F g) ∧ datas x.2 = l[k].parts:=h
theorem GAt.form (h:GAt w F v l):∃ a cap,v = .slice a l.length cap:=by
 obtain ⟨vs,_,hr,_⟩:=h
 rcases hr.2 with ⟨rfl,h0⟩ | ⟨g,cap,cur,rfl,_⟩
 ·exact ⟨none,0,by rw [h0]⟩
 ·exact ⟨_,cap,rfl⟩
/-- One of the blocks,its cells and its texts. -/
theorem GAt.get (h:GAt w F v l) {k:Nat} (hk:k < l.length):∃ g cap ap cp ps,v = .slice (some ⟨g,0,none⟩) l.length cap ∧ F g ∧ g < w.heap.size ∧ w.cell? ⟨g,k * 4,none⟩ = some (.string ⟨l[k].head.toArray⟩) ∧ w.cell? ⟨g,k * 4 + 1,none⟩ = some (.slice ap (List.length ps) cp) ∧ w.cell? ⟨g,k * 4 + 2,none⟩ = some (.bool l[k].clear) ∧ w.cell? ⟨g,k * 4 + 3,none⟩ = some (.bool l[k].last) ∧
  Texts w ap ps ∧ datas ps = l[k].parts ∧ ps.length ≤ 9223372036854775807 ∧ (∀ b o,ap = some ⟨b,o,none⟩ → ps ≠ [] → b < w.heap.size):=by
 obtain ⟨vs,hl,hr,hf,hp⟩:=h.row
 obtain ⟨x,a1,a2,a3,a4⟩:=hp k hk
 have hz:=zip_get a1 (List.getElem?_eq_getElem hk)
 have hmx:x.2.length ≤ 9223372036854775807:=by
  rcases a2.2 with ⟨_,h0⟩ | ⟨g,cap,cur,_,_,_,h1,h2,_⟩
  ·omega
  ·unfold maxLen at h2; omega
 rcases hr.2 with ⟨_,h0⟩ | ⟨g,cap,cur,rfl,_,hh,_⟩
 ·omega
 ·have cell:∀ j,j < 4 → w.cell? ⟨g,k * 4 + j,none⟩ = (bCells (x,l[k]))[j]?:=fun j hj=>by
   rw [Nat.mul_comm k 4,World.ownsRow.cellAt hr (4 * k + j) (by omega),flat_get bCells bCells_len _ k j _ hz hj]
  obtain ⟨ap,cp,e,ht⟩:=OwnS.texts (w:=w) (B:=0) a2
  refine ⟨g,cap,ap,cp,x.2,rfl,hf g rfl,lt_of_block hh,cell 0 (by omega),?_,cell 2 (by omega),cell 3 (by omega),ht,a4,hmx,?_⟩
  ·rw [cell 1 (by omega),← e]
   rfl
  ·intro b o e1 _
   exact (World.ownsRow.lt a2 b (by rw [e,e1]; rfl)).2
end
theorem Tryz.infoBlk:(Tryz.prog.info? 57).map (fun i=>(i.zero,i.size,i.bytes)) = some (some (.agg #[.string ⟨#[]⟩,.slice none 0 0,.bool false,.bool false]),4,48):=by kernel_rfl
theorem bCells_one (x:Value × List ByteArray) (b:Bk) (hx:∃ a n c,x.1 = .slice a n c):∀ u ∈ bCells (x,b),u.oneCell' = true:=by
 obtain ⟨a,n,c,e⟩:=hx
 intro u hu
 simp only [bCells,List.mem_cons,List.not_mem_nil,or_false] at hu
 rcases hu with rfl | rfl | rfl | rfl
 ·rfl
 ·rw [e]; rfl
 ·rfl
 ·rfl
theorem row_slice {w:World} {e:TypeId} {z:Nat} {v:Value} {n:Nat} {xs:List Value} (h:w.ownsRow 0 e z v n xs):∃ a n c,v = .slice a n c:=by
 rcases h.2 with ⟨rfl,_⟩ | ⟨g,cap,cur,rfl,_⟩
 ·exact ⟨_,_,_,rfl⟩
 ·exact ⟨_,_,_,rfl⟩
section
variable {ops:Array Oper} {rest:List Oper} {o:Oper} {a:Act} {Q:Exit → Act → World → Prop}
/-- One block behind a list of them. -/
theorem app_blk (W:World) (x:Value × List ByteArray) (b:Bk) (hgd:o.guard = none) (sl y:Operand)
  (ho:o.op = .call { callee:=.builtin .append,args:=#[sl,y],argTypes:=#[76,76] })
  {F G:Nat → Prop} (v:Value) (vs:List (Value × List ByteArray)) (l:List Bk) (g cp:Nat) (hs:a.eval sl = v) (hx:a.eval y = .slice (some ⟨g,0,none⟩) 1 cp) (hg0:g = W.heap.size) (hown:GOwn W F v vs l)
  (hlen:l.length ≤ 1000000000001) (hG:∀ g,F g ∨ W.heap.size ≤ g → G g) (hp:W.ownsRow 0 9 1 x.1 x.2.length (x.2.map Value.string)) (hpF:∀ g,x.1.ownBlock = some g → F g) (hd:datas x.2 = b.parts) (hne:x.1.ownBlock = none ∨ x.1.ownBlock ≠ v.ownBlock)
  (h:∀ v' W',GOwn W' G v' (vs ++ [x]) (l ++ [b]) → (W.alloc (.cells #[.string ⟨b.head.toArray⟩,x.1,.bool b.clear,.bool b.last] 57)).grownBy W' v.ownBlock → wpList Tryz.prog ops Q rest (a.put o.dst v') W') :
  wpList Tryz.prog ops Q (o::rest) a (W.alloc (.cells #[.string ⟨b.head.toArray⟩,x.1,.bool b.clear,.bool b.last] 57)):=by
 obtain ⟨i0,hi,hz0,hz1,hz2⟩:=info_parts Tryz.infoBlk
 subst hg0
 have hown1:GOwn (W.alloc (.cells #[.string ⟨b.head.toArray⟩,x.1,.bool b.clear,.bool b.last] 57)) F v vs l:=hown.keep fun g _ hg=>Below.heap_alloc _ _ _ hg
 refine wpList_append_foot _ hgd sl y 76 ho 0 57 i0 _ 4 48 Tryz.underlying76 hi hz0 hz1 hz2 rfl (by decide) v l.length _ hs hown1.row ⟨W.heap.size,0,none⟩ 1 cp (bCells (x,b)) hx rfl
  (cells_new _ _ _) (bCells_one x b (row_slice hp)) (by unfold maxLen; omega) (by omega) (Nat.zero_le _) ?_
 intro v' W' ho' hg hf
 refine h v' W' (hown1.app ho' hg hf (fun g hg=>hG g (hg.imp id (fun z=>by simp at z; omega))) (World.ownsRow.alloc hp _) hpF hd hne) hg
end
end Go.Proofs.YtlbpjcphhocdkaaGreat
namespace Go.Proofs.YtlbpjcphhocdkaaGreat.Mod
theorem parts_eq {c:Cfg} {m:Msg} (hc:c.Ok) {j:Nat} (hj:j < nblk c m):(blkAt c m j).parts = ((pieces c m).drop (j * c.parts)).take c.parts:=by
 have hP:=hc.parts.1
 have hg:=chunk_get c.parts hP (pieces c m).length (pieces c m) (Nat.le_refl _) j
 have hj':=hj
 unfold nblk groups at hj'
 rw [chunk_len c.parts hP _ _ (Nat.le_refl _) j] at hj'
 rw [if_pos hj'] at hg
 show (groups c m).getD j [] = _
 unfold groups
 rw [List.getD,hg]
 rfl
theorem pieces_pos {c:Cfg} (m:Msg) (hc:c.Ok):0 < (pieces c m).length:=(piece_lt hc 0).2 (Or.inl rfl)
theorem nblk_one {c:Cfg} (m:Msg) (hc:c.Ok):0 < nblk c m:=(block_lt hc 0).2 (Or.inl rfl)
theorem block_piece {c:Cfg} {m:Msg} (hc:c.Ok) (j:Nat):j < nblk c m ↔ j * c.parts < (pieces c m).length:=by
 unfold nblk groups
 rw [chunk_len c.parts hc.parts.1 _ _ (Nat.le_refl _) j]
 constructor
 ·rintro (rfl | h)
  ·rw [Nat.zero_mul]; exact pieces_pos m hc
  ·exact h
 ·exact Or.inr
/-- A block ahead of its head and its mark. -/
def pre (c:Cfg) (m:Msg) (j:Nat):Bk:=⟨[],((pieces c m).drop (j * c.parts)).take c.parts,m.clear,false⟩
def pres (c:Cfg) (m:Msg):List Bk:=(List.range (nblk c m)).map (pre c m)
theorem pres_len (c:Cfg) (m:Msg):(pres c m).length = nblk c m:=by simp [pres]
def blocks (c:Cfg) (m:Msg):List Bk:=(List.range (nblk c m)).map (blkAt c m)
theorem blocks_len (c:Cfg) (m:Msg):(blocks c m).length = nblk c m:=by simp [blocks]
theorem blocks_get {c:Cfg} {m:Msg} {j:Nat} (h:j < (blocks c m).length):(blocks c m)[j] = blkAt c m j:=by simp [blocks]
def pres1 (c:Cfg) (m:Msg):List Bk:=(pres c m).set 0 { pre c m 0 with head:=m.head }
theorem pres1_len (c:Cfg) (m:Msg):(pres1 c m).length = nblk c m:=by simp [pres1,pres_len]
theorem pres1_get {c:Cfg} {m:Msg} {j:Nat} (h:j < (pres1 c m).length):(pres1 c m)[j] = { pre c m j with head:=if j = 0 then m.head else [] }:=by
 by_cases h0:j = 0
 ·subst h0
  simp [pres1]
 ·simp only [pres1]
  rw [List.getElem_set_ne (Ne.symm h0)]
  simp [pres,h0,pre]
theorem blocks_eq {c:Cfg} {m:Msg} (hc:c.Ok):(pres1 c m).set (nblk c m - 1) { pre c m (nblk c m - 1) with head:=if nblk c m - 1 = 0 then m.head else [],last:=true } = blocks c m:=by
 have hn:=nblk_one m hc
 apply List.ext_getElem
 ·simp [pres1_len,blocks_len]
 ·intro j h1 h2
  rw [blocks_get]
  have hj:j < nblk c m:=by rw [blocks_len] at h2; exact h2
  have hp:=parts_eq hc hj
  by_cases hl:nblk c m - 1 = j
  ·subst hl
   rw [List.getElem_set_self]
   unfold blkAt at hp ⊢
   simp only at hp
   rw [hp]
   simp only [pre,Bk.mk.injEq,true_and]
   unfold nblk at *
   simp; omega
  ·rw [List.getElem_set_ne hl,pres1_get]
   unfold blkAt at hp ⊢
   simp only at hp
   rw [hp]
   simp only [pre,Bk.mk.injEq,true_and]
   unfold nblk at *
   simp; omega
theorem pieces_get {c:Cfg} {m:Msg} (hc:c.Ok) {t:Nat} (h:t = 0 ∨ t * c.size < m.text.length):(pieces c m).take (t + 1) = (pieces c m).take t ++ [(m.text.drop (t * c.size)).take c.size]:=by
 have hg:=chunk_get c.size hc.size.1 m.text.length m.text (Nat.le_refl _) t
 rw [if_pos h] at hg
 rw [List.take_add_one]
 unfold pieces
 rw [hg]
 rfl
theorem pieces_all {c:Cfg} {m:Msg} (hc:c.Ok) {t:Nat} (h0:t ≠ 0) (h:¬ t * c.size < m.text.length):(pieces c m).take t = pieces c m:=by
 apply List.take_of_length_le
 rcases Nat.lt_or_ge t (pieces c m).length with h1 | h1
 ·rcases (piece_lt hc t).1 h1 with h2 | h2
  ·exact absurd h2 h0
  ·exact absurd h2 h
 ·exact h1
theorem pres_snoc (c:Cfg) (m:Msg) (j:Nat):((List.range (j + 1)).map (pre c m)) = (List.range j).map (pre c m) ++ [pre c m j]:=by rw [List.range_succ]; simp
end Go.Proofs.YtlbpjcphhocdkaaGreat.Mod
namespace Go.Proofs.YtlbpjcphhocdkaaGreat
open Go.RowKit
/-- Some slots hold other values. -/
def Puts (a:Act) (u:Nat → Value) (ds:List Nat):Act:=ds.foldl (fun a d=>a.put (some d) (u d)) a
theorem region_puts {P:Program} {id:Nat} {ops:Array Oper} {b:Bool} {Q:Exit → Act → World → Prop} {a:Act} {w:World} (ds:List Nat) (R:World → Prop)
  (h:(Code.region id ops b).wp P (Only fun a' w'=>(∃ u,a' = Puts a u ds) ∧ R w') a w) (k:∀ (u:Nat → Value) w',R w' → Q .normal (Puts a u ds) w'):(Code.region id ops b).wp P Q a w :=
 region_only _ h fun a' w' ⟨⟨u,hu⟩,hR⟩=>by subst hu; exact k u w' hR
theorem row_form {w:World} {B:Nat} {e:TypeId} {z n:Nat} {v:Value} {xs:List Value} (h:w.ownsRow B e z v n xs):∃ a cap,v = .slice a n cap:=by
 rcases h.2 with ⟨rfl,h0⟩ | ⟨g,cap,cur,rfl,_⟩
 ·exact ⟨none,0,by rw [h0]⟩
 ·exact ⟨_,cap,rfl⟩
end Go.Proofs.YtlbpjcphhocdkaaGreat
namespace Go.Proofs.YtlbpjcphhocdkaaGreat
open Go.RowKit Go.Proofs.YtlbpjcphhocdkaaGreat.Mod Go.Proofs.YtlbpjcphhocdkaaGreat.Pst
theorem datas_take (l:List ByteArray) (n:Nat):datas (l.take n) = (datas l).take n:=by simp [datas,List.map_take]
theorem datas_drop (l:List ByteArray) (n:Nat):datas (l.drop n) = (datas l).drop n:=by simp [datas,List.map_drop]
theorem piece_is {c:Cfg} {m:Msg} {s r:ByteArray} {A E:Nat} (hs:s.data.toList = m.text) (hr:Is r ((s.data.toList.drop A).take (E - A))) (hE:E = A + c.size ∨ (E = m.text.length ∧ m.text.length ≤ A + c.size)):r.data.toList = (m.text.drop A).take c.size:=by
 rw [hr.data,hs]
 rcases hE with rfl | ⟨rfl,h⟩
 ·rw [Nat.add_sub_cancel_left]
 ·rw [List.take_of_length_le (by simp),List.take_of_length_le (by simp; omega)]
theorem row_get {w w':World} {B:Nat} {v:Value} {l:List ByteArray} {k:Nat} {r:ByteArray} (h:OwnS w B v l) (hb:∀ g,g < w.heap.size → w'.heap[g]? = w.heap[g]?) (hr:l[k]? = some r):∃ g cap,v = .slice (some ⟨g,0,none⟩) l.length cap ∧ w'.cell? ⟨g,k,none⟩ = some (.string r):=by
 have hk:k < l.length:=(List.getElem?_eq_some_iff.1 hr).1
 rcases h.2 with ⟨_,h0⟩ | ⟨g,cap,cur,rfl,_,hh,_⟩
 ·omega
 ·refine ⟨g,cap,rfl,?_⟩
  rw [World.cell?_of_block (hb g (lt_of_block hh)),World.ownsRow.cellAt h k (by omega)]
  simp [hr]
theorem own_row {w:World} {B n:Nat} {v:Value} {l:List ByteArray} (h:OwnS w B v l) (hl:l.length = n):w.ownsRow B 9 1 v n (l.map Value.string):=by subst hl; exact h
/-- Behind the append onto the block's parts. -/
theorem inner_app {W2 W3 w':World} {o:Obj} {a3:Option Addr} {t2 cap3:Nat} {xs:List Value} {h c t:Value} (hbel:Below W2.heap.size W2 W3) (hz:W2.heap.size + 1 ≤ W3.heap.size) (hB:BlkAt W3 W2.heap.size h (.slice a3 t2 cap3) c t) (hO:W3.ownsRow (W2.heap.size + 1) 9 1 (.slice a3 t2 cap3) t2 xs) (hg:(W3.alloc o).drew.grownBy w' (Value.slice a3 t2 cap3).ownBlock) :
  Below W2.heap.size W2 w' ∧ BlkAt w' W2.heap.size h (.slice a3 t2 cap3) c t ∧ W2.heap.size + 1 ≤ w'.heap.size:=by
 have hs:=hg.size
 have hlt:∀ k,(Value.slice a3 t2 cap3).ownBlock = some k → W2.heap.size + 1 ≤ k:=fun k hk=>(World.ownsRow.lt hO k hk).1
 refine ⟨(Below.drew (hbel.alloc (by omega) o)).grown hg (by simp; omega) (fun k hk=>by have:=hlt k hk; omega),?_,by simp at hs; omega⟩
 refine (hg.block W2.heap.size (by simp; omega) (fun e=>by have:=hlt _ e.symm; omega)).trans ?_
 exact (Below.heap_alloc _ _ _ (by omega)).trans hB
theorem row_base {w:World} {B:Nat} {e:TypeId} {z n:Nat} {v:Value} {xs:List Value} (h:w.ownsRow B e z v n xs):w.ownsRow 0 e z v n xs:=⟨h.1,h.2.imp id fun ⟨g,cap,cur,a,_,b⟩=>⟨g,cap,cur,a,Nat.zero_le _,b⟩⟩
/-- The head is written into the first block,the mark into the last. -/
theorem blocks_end {c:Cfg} {m:Msg} {W:World} {F:Nat → Prop} {g cap N:Nat} {vs:List (Value × List ByteArray)} {hd:ByteArray} (hc:c.Ok) (hn:N + 1 = nblk c m) (hhd:(⟨m.head.toArray⟩:ByteArray) = hd) (h:GOwn W F (.slice (some ⟨g,0,none⟩) (N + 1) cap) vs ((List.range (N + 1)).map (pre c m))) :
  W.cell? ⟨g,0,none⟩ = some (.string ⟨#[]⟩) ∧ (∀ i,W.frozen? ⟨g,i,none⟩ = false) ∧ (W.setCell ⟨g,0,none⟩ (.string hd)).cell? ⟨g,N * 4 + 3,none⟩ = some (.bool false) ∧ GOwn ((W.setCell ⟨g,0,none⟩ (.string hd)).setCell ⟨g,N * 4 + 3,none⟩ (.bool true)) F (.slice (some ⟨g,0,none⟩) (N + 1) cap) vs (blocks c m):=by
 have e:(List.range (N + 1)).map (pre c m) = pres c m:=by unfold pres; rw [← hn]
 rw [e] at h
 have hl:(pres c m).length = N + 1:=by rw [pres_len,hn]
 have hl1:(pres1 c m).length = N + 1:=by rw [pres1_len,hn]
 have p0:∀ (k:Nat) (hk:k < (pres c m).length),(pres c m)[k] = pre c m k:=fun k hk=>by simp [pres]
 rw [← hl] at h
 have h0:0 < (pres c m).length:=by omega
 have hN:N < (pres c m).length:=by omega
 obtain ⟨x,a1,_⟩:=h.part 0 h0
 obtain ⟨y,b1,_⟩:=h.part N hN
 have c0:W.cell? ⟨g,0,none⟩ = some (.string ⟨#[]⟩):=by
  rw [World.ownsRow.cellAt h.row 0 (by omega)]
  have:=flat_get bCells bCells_len _ 0 0 _ (zip_get a1 (List.getElem?_eq_getElem h0)) (by omega)
  rw [Nat.mul_zero,Nat.zero_add] at this
  rw [this,p0]
  rfl
 have q1:=h.put (k:=0) (j:=0) (u:=.string hd) h0 (by omega) { pre c m 0 with head:=m.head } (by rw [p0]) (fun x=>by rw [← hhd,p0]; rfl)
 have e1:(pres c m).set 0 { pre c m 0 with head:=m.head } = pres1 c m:=rfl
 rw [e1,hl,← hl1] at q1
 have hN1:N < (pres1 c m).length:=by omega
 have q2:=q1.put (k:=N) (j:=3) (u:=.bool true) hN1 (by omega) { pre c m N with head:=if N = 0 then m.head else [],last:=true } (by rw [pres1_get]) (fun x=>by rw [pres1_get]; rfl)
 have e2:=blocks_eq (m:=m) hc
 rw [show nblk c m - 1 = N by omega] at e2
 rw [e2,hl1] at q2
 have e3:4 * N + 3 = N * 4 + 3:=by omega
 rw [e3] at q2
 refine ⟨c0,fun i=>World.ownsRow.frozenAt h.row i,?_,q2⟩
 obtain ⟨z,d1,_⟩:=q1.part N hN1
 have:=World.ownsRow.cellAt q1.row (4 * N + 3) (by omega)
 rw [flat_get bCells bCells_len _ N 3 _ (zip_get d1 (List.getElem?_eq_getElem hN1)) (by omega),e3] at this
 refine this.trans ?_
 rw [pres1_get]
 rfl
theorem loop_below {W1 W2 W3 W5:World} {o:Obj} {ga:Option Addr} {j gcap:Nat} {l:List Bk} {vs:List (Value × List ByteArray)} (h1:Below W1.heap.size W1 W2) (h2:Below W2.heap.size W2 W3) (hG:GOwn W2 (fun g=>W1.heap.size ≤ g) (.slice ga j gcap) vs l) (hg:(W3.alloc o).grownBy W5 (Value.slice ga j gcap).ownBlock):Below W1.heap.size W1 W5 :=
 ((below_step h1 h2).alloc (Nat.le_trans h1.size h2.size) o).grown hg (by have:=h1.size; have:=h2.size; simp; omega) (fun k hk=>hG.foot k hk)
/-- What Blocks leaves. -/
def BlocksPost (c:Cfg) (m:Msg) (w:World) (e:Ending) (w':World):Prop:=∃ v vs,e = .returned v ∧ GOwn w' (fun g=>w.heap.size ≤ g) v vs (blocks c m) ∧ Below w.heap.size w w'
theorem take_drop_snoc {α:Type} {l:List α} {I t:Nat} {r:α} (h:l[I + t]? = some r):(l.drop I).take (t + 1) = (l.drop I).take t ++ [r]:=by
 rw [List.take_add_one,List.getElem?_drop,h]; rfl
/-- The first loop's round and what is behind it are walked by themselves. -/
theorem rblocks_any (c:Cfg) (m:Msg) (w:World) (hc:c.Ok) (ht:m.text.length ≤ 200) :
  Calls Tryz.prog 147 #[msgV m,.int .i64 c.size,.int .i64 c.parts] w fun e w'=>BlocksPost c m w e w':=by
 have hz:=hc.size
 have hp:=hc.parts
 have HC:=hide hc
 obtain ⟨s,HS,hss⟩:∃ s:ByteArray,Hid (s.data.toList = m.text) ∧ s = ⟨m.text.toArray⟩:=⟨_,by simp [Hid],rfl⟩
 have hsz:s.size = m.text.length:=by rw [hss]; rfl
 have hs2:s.size ≤ 200:=by omega
 have HSZ:=hide hsz
 have HSS:=hide hss
 clear hc hsz hss ht
 unfold msgV
 rw [← HSS.out]
 go_enter Tryz.func147,Tryz.ntmps147
 go_wp2_with fail
 refine wp_at (fun W=>Below w.heap.size w W ∧ w.heap.size < W.heap.size ∧ W.cell? ⟨w.heap.size,0,none⟩ = some (.string ⟨m.head.toArray⟩) ∧ W.cell? ⟨w.heap.size,1,none⟩ = some (.string s) ∧ W.cell? ⟨w.heap.size,2,none⟩ = some (.bool m.clear)) ⟨(Below.refl _ _).alloc (Nat.le_refl _) _,by simp,by simp,by simp,by simp⟩ ?_
 rintro W0 ⟨hb0,hz0,m0,m1,m2⟩
 have HB0:=hide hb0
 clear hb0
 generalize hhd:(⟨m.head.toArray⟩:ByteArray) = hd at *
 have HHD:=hide hhd
 clear hhd
 go_wp2
 go_loopw [7,8] (fun x i wr=>∃ (t:Nat) (l:List ByteArray),i = .int .i64 (t * c.size:Nat) ∧ l.length = t ∧ t ≤ 201 ∧ OwnS wr W0.heap.size x l ∧ Hid (datas l = (pieces c m).take t) ∧ Below W0.heap.size W0 wr) (fun _ i _=>1000 - (intOf i).toNat)
 case atStart=>exact ⟨0,[],by rw [Nat.zero_mul]; rfl,rfl,by omega,OwnS.nil _ _,rfl,Below.refl _ _⟩
 case round =>
  obtain ⟨t,l,rfl,hl,ht,hown,HD,hbel⟩:=hrel
  have e0:=(hbel.cell (p:=⟨w.heap.size,0,none⟩) hz0).trans m0
  have e1:=(hbel.cell (p:=⟨w.heap.size,1,none⟩) hz0).trans m1
  have e2:=(hbel.cell (p:=⟨w.heap.size,2,none⟩) hz0).trans m2
  have HBel:=hide hbel
  have hB:=hbel.size
  have HOwn:=hide hown
  obtain ⟨a,cap,rfl,_⟩:=hown.texts
  have HL:=hide hl
  clear hbel hown hl
  have HT1:Hid ((t + 1) * c.size = t * c.size + c.size):=by rw [Hid,Nat.add_mul,Nat.one_mul]
  have HM:Hid (t ≤ t * c.size):=Nat.le_mul_of_pos_right _ (by omega)
  by_cases hgo:t = 0 ∨ t * c.size < s.size
  ·have HPG:Hid ((pieces c m).take (t + 1) = (pieces c m).take t ++ [(m.text.drop (t * c.size)).take c.size]):=pieces_get HC.out (by rw [← HSZ.out]; exact hgo)
   have HGo:=hide hgo
   generalize hA:t * c.size = A at *
   have hA0:t = 0 → A = 0:=fun h=>by rw [h,Nat.zero_mul] at hA; exact hA.symm
   have hA2:A ≤ 200:=hgo.elim (fun h=>by have:=hA0 h; omega) (fun h=>by omega)
   have HA:=hide hA
   have hgo2:A = 0 ∨ A < s.size:=hgo.elim (fun h=>Or.inl (hA0 h)) Or.inr
   have ht2:t ≤ 200:=by have:=HM.out; omega
   have hl1:l.length ≤ 1000:=by rw [HL.out]; omega
   clear hA hgo ht hA0
   by_cases hE:A + c.size ≤ s.size
   ·have hlt:(A:Int) < (s.size:Int):=by omega
    have hE':¬ (s.size:Int) < (A:Int) + (c.size:Int):=by omega
    have HR:=hide (is_cut s A (A + c.size))
    have hrs:(s.extract A (A + c.size)).size ≤ 1000:=by rw [HR.out.size]; simp; omega
    have HP:Hid ((s.extract A (A + c.size)).data.toList = (m.text.drop A).take c.size):=piece_is HS.out HR.out (Or.inl rfl)
    clear hgo2
    go_wp2_with (at_builtin; refine app_txt _ (s.extract A (A + c.size)) rfl (.tmp 37) (.tmp 43) rfl W0.heap.size _ l _ 1 rfl rfl rfl HOwn.out hl1 W0 HBel.out hB ?_; intro x' w' hown' hbel' hB')
    go_roundw
    case rel=>exact ⟨t + 1,l ++ [s.extract A (A + c.size)],by rw [HT1.out]; go_num,by simp [HL.out],by omega,hown',by rw [Hid,datas_snoc,HD.out,HP.out,HPG.out],hbel'⟩
    case measure=>simp [intOf]; omega
   ·have hE':(s.size:Int) < (A:Int) + (c.size:Int):=by omega
    have HR:=hide (is_cut s A s.size)
    have hrs:(s.extract A s.size).size ≤ 1000:=by rw [HR.out.size]; simp; omega
    have HP:Hid ((s.extract A s.size).data.toList = (m.text.drop A).take c.size):=piece_is HS.out HR.out (Or.inr ⟨HSZ.out,by have:=HSZ.out; omega⟩)
    by_cases hlt:(A:Int) < (s.size:Int)
    ·clear hgo2 hE
     go_wp2_with (at_builtin; refine app_txt _ (s.extract A s.size) rfl (.tmp 37) (.tmp 43) rfl W0.heap.size _ l _ 1 rfl rfl rfl HOwn.out hl1 W0 HBel.out hB ?_; intro x' w' hown' hbel' hB')
     go_roundw
     case rel=>exact ⟨t + 1,l ++ [s.extract A s.size],by rw [HT1.out]; go_num,by simp [HL.out],by omega,hown',by rw [Hid,datas_snoc,HD.out,HP.out,HPG.out],hbel'⟩
     case measure=>simp [intOf]; omega
    ·have hA1:((A:Int) == 0) = true:=by simp; omega
     have hA3:A ≤ s.size:=by omega
     clear hgo2 hE
     go_wp2_with (at_builtin; refine app_txt _ (s.extract A s.size) rfl (.tmp 37) (.tmp 43) rfl W0.heap.size _ l _ 1 rfl rfl rfl HOwn.out hl1 W0 HBel.out hB ?_; intro x' w' hown' hbel' hB')
     go_roundw
     case rel=>exact ⟨t + 1,l ++ [s.extract A s.size],by rw [HT1.out]; go_num,by simp [HL.out],by omega,hown',by rw [Hid,datas_snoc,HD.out,HP.out,HPG.out],hbel'⟩
     case measure=>simp [intOf]; omega
  ·have HPA:Hid (datas l = pieces c m):=by rw [Hid,HD.out]; exact pieces_all HC.out (fun h=>hgo (Or.inl h)) (fun h=>hgo (Or.inr (by rw [HSZ.out]; exact h)))
   have hlt:¬ ((t * c.size:Nat):Int) < (s.size:Int):=by omega
   have hne:(((t * c.size:Nat):Int) == 0) = false:=by have:=HM.out; simp; omega
   have HPL:Hid (l.length = (pieces c m).length):=by rw [Hid,← HPA.out,datas_length]
   have hL:l.length ≤ 201:=by rw [HL.out]; exact ht
   have hW1:W0.heap.size ≤ wr.heap.size:=hB
   clear hgo
   generalize t * c.size = A at *
   generalize wr = W1 at *
   have hmlt:w.heap.size < W1.heap.size:=by omega
   go_wp2
   go_loopw [10,11] (fun x i wx=>∃ (j:Nat) (vs:List (Value × List ByteArray)),i = .int .i64 (j * c.parts:Nat) ∧ j ≤ nblk c m ∧ GOwn wx (fun g=>W1.heap.size ≤ g) x vs ((List.range j).map (pre c m)) ∧ Below W1.heap.size W1 wx) (fun _ i _=>1000 - (intOf i).toNat)
   case atStart=>exact ⟨0,[],by rw [Nat.zero_mul]; rfl,Nat.zero_le _,GOwn.nil _ _,Below.refl _ _⟩
   case round =>
    generalize wr = W2 at *
    obtain ⟨j,vs,rfl,hj,hG,hbel2⟩:=hrel
    obtain ⟨ga,gcap,rfl⟩:=hG.form
    have hjl:((List.range j).map (pre c m)).length = j:=by simp
    rw [hjl] at hG ⊢
    have HJL:=hide hjl
    clear hjl
    have HG:=hide hG
    have HBel2:=hide hbel2
    have hB2:=hbel2.size
    have HBP:=hide (block_piece (m:=m) HC.out j)
    have HJ1:Hid ((j + 1) * c.parts = j * c.parts + c.parts):=by rw [Hid,Nat.add_mul,Nat.one_mul]
    have HJM:Hid (j ≤ j * c.parts):=Nat.le_mul_of_pos_right _ (by omega)
    have e3:=(hbel2.cell (p:=⟨w.heap.size,0,none⟩) hmlt).trans e0
    have e4:=(hbel2.cell (p:=⟨w.heap.size,2,none⟩) hmlt).trans e2
    clear hG hbel2
    by_cases hlj:j * c.parts < l.length
    ·have hjn:j < nblk c m:=HBP.out.2 (by rw [← HPL.out]; exact hlj)
     generalize hI:j * c.parts = I at *
     have HI:=hide hI
     have hlj':(I:Int) < (l.length:Int):=by omega
     have hI2:I ≤ 200:=by omega
     clear hI hj
     go_wp2
     have HB3:=hide (BlkAt.new W2 (.string ⟨#[]⟩) (.slice none 0 0) (.bool m.clear) (.bool false))
     go_loopw [13] (fun k wr3=>∃ (K t:Nat) (v:Value),k = .int .i64 K ∧ Hid (K = I + t) ∧ K ≤ I + c.parts ∧ K ≤ l.length ∧ OwnS wr3 (W2.heap.size + 1) v ((l.drop I).take t) ∧ BlkAt wr3 W2.heap.size (.string ⟨#[]⟩) v (.bool m.clear) (.bool false) ∧ W2.heap.size + 1 ≤ wr3.heap.size ∧ Below W2.heap.size W2 wr3) (fun k _=>1000 - (intOf k).toNat)
     case atStart=>exact ⟨I,0,.slice none 0 0,rfl,rfl,by omega,by omega,OwnS.nil _ _,HB3.out,by simp,(Below.refl _ _).alloc (Nat.le_refl _) _⟩
     case round =>
      generalize wr = W3 at *
      obtain ⟨K,t2,v2,rfl,HK,ht3,ht4,hown3,hB3,hz3,hbel3⟩:=hrel
      obtain ⟨a3,cap3,rfl,_⟩:=hown3.texts
      have hlt3:((l.drop I).take t2).length = t2:=by have:=HK.out; simp; omega
      rw [hlt3] at hB3 hown3
      have f1:=hB3.cell1
      have g1:=blk_free hB3 1
      have HB4:=hide hB3
      have HBel3:=hide hbel3
      have ht2:t2 ≤ 4:=by have:=HK.out; omega
      have HLT3:=hide hlt3
      have HO3:=hide (own_row hown3 hlt3)
      clear hB3 hown3 hlt3
      by_cases hk:K < I + c.parts ∧ K < l.length
      ·have k1:(K:Int) < (I:Int) + (c.parts:Int):=by omega
       have k2:(K:Int) < (l.length:Int):=by omega
       have k3:=hk.2
       clear hk
       obtain ⟨r,hr⟩:∃ r,l[K]? = some r:=⟨_,List.getElem?_eq_getElem k3⟩
       have HR:=hide hr
       clear hr
       have pc:=row_get HOwn.out (fun g hg=>(HBel3.out.block g (Nat.lt_of_lt_of_le hg hB2)).trans (HBel2.out.block g hg)) HR.out
       obtain ⟨pg,pcap,pe,pc⟩:=pc
       simp only [Value.slice.injEq,true_and] at pe
       obtain ⟨rfl,rfl⟩:=pe
       have q1:(W3.alloc (.cells #[.string r] 9)).cell? ⟨W2.heap.size,1,none⟩ = some (.slice a3 t2 cap3):=(Below.cell ((Below.refl _ W3).alloc (Nat.le_refl _) _) (by simp only; omega)).trans f1
       obtain ⟨i0,hi,hz0,hz1,hz2⟩:=info_parts Tryz.infoStr
       go_wp2_with fail
       refine region_puts [69,70,71,72,73,74,75,76,77] (fun W=>∃ a4 cap4,OwnS W (W2.heap.size + 1) (.slice a4 (t2 + 1) cap4) ((l.drop I).take (t2 + 1)) ∧ BlkAt W W2.heap.size (.string ⟨#[]⟩) (.slice a4 (t2 + 1) cap4) (.bool m.clear) (.bool false) ∧ W2.heap.size + 1 ≤ W.heap.size ∧ Below W2.heap.size W2 W) ?_ ?_
       ·go_region_law (refine step_append_foot rfl (.tmp 70) (.tmp 75) 37 rfl (W2.heap.size + 1) 9 i0 _ 1 16 Tryz.underlying37 hi hz0 hz1 hz2 rfl (by decide) (.slice a3 t2 cap3) t2 (((l.drop I).take t2).map Value.string) (by simp [Act.eval]) (World.ownsRow.alloc HO3.out _) ⟨W3.heap.size,0,none⟩ 1 1 [.string r] (by simp [Act.eval]) rfl (cell_one_new _ _ _) (by intro u hu; simp at hu; subst hu; rfl) (by unfold maxLen; omega) (by omega) (by simp; omega) ?_; intro v' w' hown' hgr' hbk'; obtain ⟨y1,y2,y3⟩:=inner_app HBel3.out hz3 HB4.out HO3.out hgr'; obtain ⟨a4,cap4,rfl⟩:=row_form hown'; have e1:=y2.cell1; have e2:=blk_free y2 1)
        all_goals (exact ⟨⟨fun i=>[.pointer (some ⟨W2.heap.size,1,none⟩),.slice a3 t2 cap3,.slice (some ⟨pg,0,none⟩) l.length cap,.int .i64 K,.pointer (some ⟨pg,K,none⟩),.string r,.slice (some ⟨W3.heap.size,0,none⟩) 1 1,.slice a4 (t2 + 1) cap4,.pointer (some ⟨W2.heap.size,1,none⟩)].getD (i - 69) undef,by simp only [Puts,List.foldl,Act.put,List.setIfInBounds_toArray,List.set_cons_succ,List.set_cons_zero,Nat.reduceSub,List.getD_cons_succ,List.getD_cons_zero]; (first | done | rfl)⟩,a4,cap4,OwnS.setCell (by unfold OwnS; rw [take_drop_snoc (by rw [← HK.out]; exact HR.out),List.map_append,List.length_append,HLT3.out]; exact hown') (by omega),blk_set1 y2,by simpa using y3,y1.setCell (by simp) _⟩)
       ·rintro u W4 ⟨a4,cap4,hO4,hB4,hz4,hb4⟩
        simp only [Puts,List.foldl,Act.put,List.setIfInBounds_toArray,List.set_cons_succ,List.set_cons_zero]
        go_wp2
        go_roundw
        case rel=>exact ⟨K + 1,t2 + 1,.slice a4 (t2 + 1) cap4,by go_num,by rw [Hid,HK.out]; omega,by omega,by omega,hO4,hB4,hz4,hb4⟩
        case measure=>simp [intOf]; omega
      ·have HPA3:Hid (datas ((l.drop I).take t2) = (pre c m j).parts):=by
        rw [Hid,datas_take,datas_drop,HPA.out]
        show _ = ((pieces c m).drop (j * c.parts)).take c.parts
        rw [HI.out]
        by_cases hq:t2 = c.parts
        ·rw [hq]
        ·have hKl:K = l.length:=by have:=HK.out; omega
         rw [List.take_of_length_le (by rw [List.length_drop,← HPL.out]; have:=HK.out; omega),List.take_of_length_le (by rw [List.length_drop,← HPL.out]; have:=HK.out; omega)]
       have f0:=HB4.out.cell0
       have f2:=HB4.out.cell2
       have f3:=HB4.out.cell3
       have hG3:GOwn W3 (fun g=>W1.heap.size ≤ g) (.slice ga j gcap) vs ((List.range j).map (pre c m)):=HG.out.below HBel3.out
       have hnx:(Value.slice a3 t2 cap3).ownBlock = none ∨ (Value.slice a3 t2 cap3).ownBlock ≠ (Value.slice ga j gcap).ownBlock:=by
        cases e:(Value.slice a3 t2 cap3).ownBlock with
        | none=>exact Or.inl rfl
        | some g =>
         right
         intro z
         have b1:=(World.ownsRow.lt HO3.out g e).1
         have b2:=(World.ownsRow.lt HG.out.row g z.symm).2
         omega
       have HG3:=hide hG3
       have HNX:=hide hnx
       have hjn2:((List.range j).map (pre c m)).length ≤ 1000000000001:=by have:=HJM.out; simp; omega
       clear hG3 hnx
       by_cases k1:(K:Int) < (I:Int) + (c.parts:Int)
       ·have k2:¬ (K:Int) < (l.length:Int):=by omega
        clear hk
        go_wp2_with (at_builtin; (refine app_blk W3 (.slice a3 t2 cap3,(l.drop I).take t2) (pre c m j) rfl (.tmp 78) (.tmp 80) rfl (F:=fun g=>W1.heap.size ≤ g) (G:=fun g=>W1.heap.size ≤ g) _ vs _ _ 1 rfl rfl rfl HG3.out hjn2 (fun g hg=>by omega) (by rw [HLT3.out]; exact row_base HO3.out) (fun g hg=>by have:=(World.ownsRow.lt HO3.out g hg).1; omega) HPA3.out HNX.out ?_; intro v5 W5 hG5 hgr5))
        go_roundw
        case rel=>exact ⟨j + 1,vs ++ [(.slice a3 t2 cap3,(l.drop I).take t2)],by rw [HJ1.out]; go_num,hjn,by rw [pres_snoc]; exact hG5,loop_below HBel2.out HBel3.out HG.out hgr5⟩
        case measure=>simp [intOf]; omega
       ·clear hk
        go_wp2_with (at_builtin; (refine app_blk W3 (.slice a3 t2 cap3,(l.drop I).take t2) (pre c m j) rfl (.tmp 78) (.tmp 80) rfl (F:=fun g=>W1.heap.size ≤ g) (G:=fun g=>W1.heap.size ≤ g) _ vs _ _ 1 rfl rfl rfl HG3.out hjn2 (fun g hg=>by omega) (by rw [HLT3.out]; exact row_base HO3.out) (fun g hg=>by have:=(World.ownsRow.lt HO3.out g hg).1; omega) HPA3.out HNX.out ?_; intro v5 W5 hG5 hgr5))
        go_roundw
        case rel=>exact ⟨j + 1,vs ++ [(.slice a3 t2 cap3,(l.drop I).take t2)],by rw [HJ1.out]; go_num,hjn,by rw [pres_snoc]; exact hG5,loop_below HBel2.out HBel3.out HG.out hgr5⟩
        case measure=>simp [intOf]; omega
    ·have hjn:j = nblk c m:=by
      rcases Nat.lt_or_ge j (nblk c m) with h | h
      ·exact absurd (by rw [HPL.out]; exact HBP.out.1 h) hlj
      ·omega
     have hpos:=nblk_one m HC.out
     have hjN:j - 1 + 1 = j:=by omega
     obtain ⟨g,gcap',ge,gF,glt⟩:=HG.out.has (by rw [HJL.out]; omega)
     simp only [Value.slice.injEq] at ge
     obtain ⟨rfl,-,rfl⟩:=ge
     have hE0:=blocks_end (N:=j - 1) HC.out (by omega) HHD.out (by rw [hjN]; exact HG.out)
     rw [hjN] at hE0
     obtain ⟨z0,z1,z2,z3⟩:=hE0
     have z4:(W2.setCell ⟨g,0,none⟩ (.string hd)).frozen? ⟨g,(j - 1) * 4 + 3,none⟩ = false:=by rw [World.frozen?_setCell]; exact z1 _
     have z5:=z1 0
     have HZ3:=hide z3
     have HE:Hid (Below w.heap.size w ((W2.setCell ⟨g,0,none⟩ (.string hd)).setCell ⟨g,(j - 1) * 4 + 3,none⟩ (.bool true))):=((below_step (below_step HB0.out HBel.out) HBel2.out).setCell (by simp only; omega) _).setCell (by simp only; omega) _
     have hj5:(0:Int) < (j:Int):=by omega
     have hj7:0 < j:=by omega
     have hj6:j ≤ 300:=by
      have h1:=(block_piece (m:=m) HC.out (j - 1)).1 (by omega)
      rw [← HPL.out] at h1
      have h2:=Nat.le_mul_of_pos_right (j - 1) (show 0 < c.parts by omega)
      omega
     have z6:((j:Int) - 1).toNat = j - 1:=by omega
     have z7:=z2
     have z8:=z4
     rw [← z6] at z7 z8
     have hlj':¬ ((j * c.parts:Nat):Int) < (l.length:Int):=by omega
     generalize j * c.parts = I at *
     clear z1 z3 hjn hlj hj hpos hjN z6
     go_wp2
     go_ret
     exact ⟨_,vs,rfl,HZ3.out.mono (fun q hq=>by omega),HE.out⟩
end Go.Proofs.YtlbpjcphhocdkaaGreat
