/- The law's World: every list that came out is as its owner wrote it. The law's World: the caller writes a list full. The law's World: the caller keeps a list. The law's World: an empty list is not kept. The law's World .. -/
import Derived.Test.YtlbpjcphhocdkaaGreatQ43
import Derived.Test.YtlbpjcphhocdkaaGreatQ46
import Derived.Laws.OwnMore
import Derived.Test.YtlbpjcphhocdkaaGreatQ09
import Derived.Test.YtlbpjcphhocdkaaGreatQ05
import Derived.Test.YtlbpjcphhocdkaaGreatQ11
import Derived.Test.YtlbpjcphhocdkaaGreatQ40
import Derived.Test.YtlbpjcphhocdkaaGreatQ37
set_option maxRecDepth 1000000
set_option maxHeartbeats 16000000
namespace Go.Proofs.YtlbpjcphhocdkaaGreat
open Go.RowKit Go.Proofs.YtlbpjcphhocdkaaGreat.Mod Go.Proofs.YtlbpjcphhocdkaaGreat.Pst
/-- A kept list: its block,its length. -/
def kSl (k:Nat × Nat):Value:=.slice (some ⟨k.1,0,none⟩) k.2 k.2
def KRow (w:World) (vk:Value) (ks:List (Nat × Nat)):Prop:=w.ownsRow 0 64 1 vk ks.length (ks.map kSl)
def KAt (w:World) (i:Nat) (k:Nat × Nat):Prop:=w.ownsRow 0 62 6 (kSl k) k.2 ((List.replicate k.2 (spC i)).flatten)
theorem rep_get (c:List Value) (hc:c.length = 6):∀ (n j t:Nat),j < n → t < 6 → ((List.replicate n c).flatten)[j * 6 + t]? = c[t]?
 | 0,j,t,h,_=>by omega
 | n + 1,0,t,_,ht=>by
  rw [List.replicate_succ,List.flatten_cons,List.getElem?_append_left (by omega)]
  simp
 | n + 1,j + 1,t,h,ht=>by
  rw [List.replicate_succ,List.flatten_cons,List.getElem?_append_right (by omega),hc,show (j + 1) * 6 + t - 6 = j * 6 + t by omega]
  exact rep_get c hc n j t (by omega) ht
theorem KAt.cell {w:World} {i:Nat} {k:Nat × Nat} (h:KAt w i k) {j t:Nat} (hj:j < k.2) (ht:t < 6):w.cell? ⟨k.1,j * 6 + t,none⟩ = (spC i)[t]?:=by
 rw [World.ownsRow.cellAt h (j * 6 + t) (by omega),rep_get _ rfl _ _ _ hj ht]
theorem row_le {w:World} {e:TypeId} {z g n cap:Nat} {xs:List Value} (h:w.ownsRow 0 e z (.slice (some ⟨g,0,none⟩) n cap) n xs):cap ≤ 9223372036854775807:=by
 rcases h.2 with ⟨e,_⟩ | ⟨g',cap',cur,e,_,_,_,hm,_⟩
 ·cases e
 ·cases e
  unfold maxLen at hm
  omega
theorem KRow.cell {w:World} {vk:Value} {ks:List (Nat × Nat)} {i:Nat} {k:Nat × Nat} (h:KRow w vk ks) (hk:ks[i]? = some k):∃ g cap,vk = .slice (some ⟨g,0,none⟩) ks.length cap ∧ g < w.heap.size ∧ w.cell? ⟨g,i,none⟩ = some (kSl k):=by
 have hi:i < ks.length:=(List.getElem?_eq_some_iff.1 hk).1
 rcases h.2 with ⟨_,h0⟩ | ⟨g,cap,cur,rfl,_,hh,_⟩
 ·omega
 ·refine ⟨g,cap,rfl,lt_of_block hh,?_⟩
  rw [World.ownsRow.cellAt h i (by omega)]
  simp [hk]
theorem KRow.form {w:World} {vk:Value} {ks:List (Nat × Nat)} (h:KRow w vk ks):∃ a cap,vk = .slice a ks.length cap:=by
 rcases h.2 with ⟨rfl,h0⟩ | ⟨g,cap,cur,rfl,_⟩
 ·exact ⟨none,0,by rw [h0]⟩
 ·exact ⟨_,cap,rfl⟩
theorem whole_any (wb:Nat) (vl vk:Value) (ks:List (Nat × Nat)) (w:World) (hw:w.heap[wb]? = some (.cells #[vl,vk] 34 (0,0))) (hr:KRow w vk ks) (hk:∀ i k,ks[i]? = some k → KAt w i k) (hn:ks.length ≤ 1000000000) :
  Calls Tryz.prog 13 #[.pointer (some ⟨wb,0,none⟩)] w fun e w'=>e = .returned (.bool true) ∧ Below w.heap.size w w':=by
 obtain ⟨ak,ck,rfl⟩:=hr.form
 have lw:=lt_of_block hw
 have c1:w.cell? ⟨wb,1,none⟩ = some (.slice ak ks.length ck):=(cells_at hw).1 1
 have HR:=hide hr
 have HK:=hide hk
 clear hw hr hk
 go_enter Tryz.func13,Tryz.ntmps13
 go_wp2
 go_loopw [3] (fun i wr=>∃ t:Nat,i = .int .i64 t ∧ t ≤ ks.length ∧ Below w.heap.size w wr) (fun i _=>ks.length - (intOf i).toNat)
 case atStart=>exact ⟨0,rfl,Nat.zero_le _,Below.refl _ _⟩
 case round =>
  generalize wr = W1 at *
  obtain ⟨t,rfl,ht,hb1⟩:=hrel
  have d1:=(hb1.cell (p:=⟨wb,1,none⟩) lw).trans c1
  have HB1:=hide hb1
  by_cases hlt:t < ks.length
  ·obtain ⟨k,hkk⟩:∃ k,ks[t]? = some k:=⟨_,List.getElem?_eq_getElem hlt⟩
   obtain ⟨g,cap,e,gl,gc⟩:=HR.out.cell hkk
   simp only [Value.slice.injEq,true_and] at e
   obtain ⟨rfl,rfl⟩:=e
   have HKA:=hide (HK.out t k hkk)
   have hk2:k.2 ≤ 9223372036854775807:=row_le HKA.out
   obtain ⟨kg,kn⟩:=k
   simp only [kSl] at gc hk2
   have hlt':(t:Int) < (ks.length:Int):=by omega
   clear hb1 hkk
   go_wp2_with fail
   refine (spoilt_any t _ (by omega)).mono ?_
   rintro e w2 ⟨rfl,hb2⟩
   have HB2:=hide (below_step HB1.out hb2)
   have hs2:=HB2.out.size
   unfold spV
   clear hb2 d1
   have E0:=hide (EvAt.new (w:=w2) rfl (.int .i64 (-1)) (.int .i64 (-1)) (.int .i64 (-1 - (t:Int))) (.string ⟨#[]⟩) (.string ⟨#[]⟩) (.bool false))
   go_wp2
   go_loopw [5] (fun j wr=>∃ q:Nat,j = .int .i64 q ∧ q ≤ kn ∧ EvAt wr w2.heap.size (.int .i64 (-1)) (.int .i64 (-1)) (.int .i64 (-1 - (t:Int))) (.string ⟨#[]⟩) (.string ⟨#[]⟩) (.bool false) ∧ Below w.heap.size w wr) (fun j _=>kn - (intOf j).toNat)
   case atStart=>exact ⟨0,rfl,Nat.zero_le _,E0.out,Below.allocN HB2.out _⟩
   case round =>
    generalize wr = W3 at *
    obtain ⟨q,rfl,hq,ev3,hb3⟩:=hrel
    have d1:=(hb3.cell (p:=⟨wb,1,none⟩) lw).trans c1
    have d2:=(hb3.cell (p:=⟨g,t,none⟩) gl).trans gc
    obtain ⟨x0,x1,x2,x3,x4,x5⟩:=ev3.cell
    have HE3:=hide ev3
    have HB3:=hide hb3
    by_cases hq2:q < kn
    ·have kl:kg < w.heap.size:=by
      have:=HKA.out.cell (j:=q) (t:=0) hq2 (by omega)
      exact World.block_lt_of_cell? w ⟨kg,q * 6 + 0,none⟩ this
     have y0:=(hb3.cell (p:=⟨kg,q * 6 + 0,none⟩) kl).trans (HKA.out.cell (j:=q) (t:=0) hq2 (by omega))
     have y1:=(hb3.cell (p:=⟨kg,q * 6 + 1,none⟩) kl).trans (HKA.out.cell (j:=q) (t:=1) hq2 (by omega))
     have y2:=(hb3.cell (p:=⟨kg,q * 6 + 2,none⟩) kl).trans (HKA.out.cell (j:=q) (t:=2) hq2 (by omega))
     have y3:=(hb3.cell (p:=⟨kg,q * 6 + 3,none⟩) kl).trans (HKA.out.cell (j:=q) (t:=3) hq2 (by omega))
     have y4:=(hb3.cell (p:=⟨kg,q * 6 + 4,none⟩) kl).trans (HKA.out.cell (j:=q) (t:=4) hq2 (by omega))
     have y5:=(hb3.cell (p:=⟨kg,q * 6 + 5,none⟩) kl).trans (HKA.out.cell (j:=q) (t:=5) hq2 (by omega))
     simp only [spC,List.getElem?_cons_zero,List.getElem?_cons_succ,Nat.add_zero] at y0 y1 y2 y3 y4 y5
     have hqq:=eqEv_same (-1) (-1) (-1 - (t:Int)) ⟨#[]⟩ ⟨#[]⟩ false
     have hm:=guardEv
     have hq3:(q:Int) < (kn:Int):=by omega
     clear hb3 ev3
     go_wp2_with fail
     go_quiet (fail)
     go_wp2
     go_roundw
     case rel=>exact ⟨q + 1,by go_num,by omega,EvAt.below HE3.out (below_drewN (Below.refl _ _) nq),below_drewN HB3.out nq⟩
     case measure=>simp [intOf]; omega
    ·have hq3:¬ (q:Int) < (kn:Int):=by omega
     clear hb3 ev3
     go_wp2
     go_roundw
     case rel=>exact ⟨t + 1,by go_num,by omega,HB3.out⟩
     case measure=>simp [intOf]; omega
  ·have hlt':¬ (t:Int) < (ks.length:Int):=by omega
   clear hb1
   go_wp2
   go_ret
   exact ⟨rfl,HB1.out⟩
/-- The first q events of a list are the owner's. -/
def Wr (n q:Nat) (xs:List Value):Prop:=∀ j,j < q → ∀ t,t < 6 → xs[j * 6 + t]? = (spC n)[t]?
theorem Wr.all {n c:Nat} {xs:List Value} (h:Wr n c xs) (hl:xs.length = c * 6):xs = (List.replicate c (spC n)).flatten:=by
 have hf:((List.replicate c (spC n)).flatten).length = c * 6:=by simp [spC]
 apply List.ext_getElem?
 intro i
 by_cases hi:i < c * 6
 ·have h1:=h (i / 6) (by omega) (i % 6) (by omega)
  have h2:=rep_get (spC n) rfl c (i / 6) (i % 6) (by omega) (by omega)
  rw [show i / 6 * 6 + i % 6 = i by omega] at h1 h2
  rw [h1,h2]
 ·rw [List.getElem?_eq_none (by omega),List.getElem?_eq_none (by omega)]
theorem Wr.next {n q:Nat} {xs:List Value} (h:Wr n q xs) (hl:q * 6 + 6 ≤ xs.length) :
  Wr n (q + 1) ((((((xs.set (q * 6) (.int .i64 (-1))).set (q * 6 + 1) (.int .i64 (-1))).set (q * 6 + 2) (.int .i64 (-1 - (n:Int)))).set (q * 6 + 3) (.string ⟨#[]⟩)).set (q * 6 + 4) (.string ⟨#[]⟩)).set (q * 6 + 5) (.bool false)):=by
 intro j hj t ht
 by_cases hq:j = q
 ·subst hq
  rcases (show t = 0 ∨ t = 1 ∨ t = 2 ∨ t = 3 ∨ t = 4 ∨ t = 5 by omega) with rfl | rfl | rfl | rfl | rfl | rfl <;> simp [List.getElem?_set,spC] <;> omega
 ·have h0:=h j (by omega) t ht
  rw [← h0]
  rw [List.getElem?_set_ne (by omega),List.getElem?_set_ne (by omega),List.getElem?_set_ne (by omega),List.getElem?_set_ne (by omega),List.getElem?_set_ne (by omega),List.getElem?_set_ne (by omega)]
/-- Six cells of an owned row are written. -/
theorem row_six {w:World} {e:TypeId} {g cap:Nat} {xs:List Value} (h:w.ownsRow 0 e 6 (.slice (some ⟨g,0,none⟩) cap cap) cap xs) (q:Nat) (u0 u1 u2 u3 u4 u5:Value) :
  ((((((w.setCell ⟨g,q * 6,none⟩ u0).setCell ⟨g,q * 6 + 1,none⟩ u1).setCell ⟨g,q * 6 + 2,none⟩ u2).setCell ⟨g,q * 6 + 3,none⟩ u3).setCell ⟨g,q * 6 + 4,none⟩ u4).setCell ⟨g,q * 6 + 5,none⟩ u5).ownsRow 0 e 6 (.slice (some ⟨g,0,none⟩) cap cap) cap ((((((xs.set (q * 6) u0).set (q * 6 + 1) u1).set (q * 6 + 2) u2).set (q * 6 + 3) u3).set (q * 6 + 4) u4).set (q * 6 + 5) u5):=by
 have h1:=(World.ownsRow.stored h (q * 6) u0).1
 have h2:=(World.ownsRow.stored h1 (q * 6 + 1) u1).1
 have h3:=(World.ownsRow.stored h2 (q * 6 + 2) u2).1
 have h4:=(World.ownsRow.stored h3 (q * 6 + 3) u3).1
 have h5:=(World.ownsRow.stored h4 (q * 6 + 4) u4).1
 exact (World.ownsRow.stored h5 (q * 6 + 5) u5).1
/-- A list,and its spare room. -/
theorem OwnE.full {w:World} {B:Nat} {v:Value} {l:List Ev} (h:OwnE w B v l):v = .slice none 0 0 ∨ ∃ g cap xs,v = .slice (some ⟨g,0,none⟩) l.length cap ∧ B ≤ g ∧ g < w.heap.size ∧ l.length ≤ cap ∧ w.ownsRow 0 62 6 (.slice (some ⟨g,0,none⟩) cap cap) cap xs:=by
 rcases h.2 with ⟨rfl,_⟩ | ⟨g,cap,cur,rfl,hB,hh,h1,h2,h3,_⟩
 ·exact Or.inl rfl
 ·refine Or.inr ⟨g,cap,cur.toList,rfl,hB,lt_of_block hh,h1,by simp [h3],Or.inr ⟨g,cap,cur,rfl,Nat.zero_le _,hh,Nat.le_refl _,h2,h3,?_⟩⟩
  rw [List.take_of_length_le (by simp [h3])]
theorem fr_set {w W:World} {g i:Nat} {u:Value} (h:Fr (fun x=>x = g) w W):Fr (fun x=>x = g) w (W.setCell ⟨g,i,none⟩ u) :=
 ⟨h.os,h.tape,h.output,by simpa using h.size,fun x hx hne=>(Below.heap_setCell _ _ _ _ hne).trans (h.block x hx hne)⟩
theorem keep_round {w w2:World} {g cap q n:Nat} {ys:List Value} (h:w2.ownsRow 0 62 6 (.slice (some ⟨g,0,none⟩) cap cap) cap ys) (hw:Wr n q ys) (hf:Fr (fun x=>x = g) w w2) (hq:q < cap):∃ zs,((((((w2.setCell ⟨g,q * 6,none⟩ (.int .i64 (-1))).setCell ⟨g,q * 6 + 1,none⟩ (.int .i64 (-1))).setCell ⟨g,q * 6 + 2,none⟩ (.int .i64 (-1 - (n:Int)))).setCell ⟨g,q * 6 + 3,none⟩ (.string ⟨#[]⟩)).setCell ⟨g,q * 6 + 4,none⟩ (.string ⟨#[]⟩)).setCell ⟨g,q * 6 + 5,none⟩ (.bool false)).ownsRow 0 62 6 (.slice (some ⟨g,0,none⟩) cap cap) cap zs ∧ Hid (Wr n (q + 1) zs) ∧ Fr (fun x=>x = g) w ((((((w2.setCell ⟨g,q * 6,none⟩ (.int .i64 (-1))).setCell ⟨g,q * 6 + 1,none⟩ (.int .i64 (-1))).setCell ⟨g,q * 6 + 2,none⟩ (.int .i64 (-1 - (n:Int)))).setCell ⟨g,q * 6 + 3,none⟩ (.string ⟨#[]⟩)).setCell ⟨g,q * 6 + 4,none⟩ (.string ⟨#[]⟩)).setCell ⟨g,q * 6 + 5,none⟩ (.bool false)) :=
 ⟨_,row_six h q _ _ _ _ _ _,Wr.next hw (by rw [h.1]; omega),fr_set (fr_set (fr_set (fr_set (fr_set (fr_set hf)))))⟩
theorem Tryz.infoEvs:(Tryz.prog.info? 64).map (fun i=>(i.zero,i.size,i.bytes)) = some (some (.slice none 0 0),1,24):=by kernel_rfl
theorem keep_some (wb:Nat) (vl vk:Value) (ks:List (Nat × Nat)) (g n cap:Nat) (xs:List Value) (w:World) (hw:w.heap[wb]? = some (.cells #[vl,vk] 34 (0,0))) (hr:KRow w vk ks) (ho:w.ownsRow 0 62 6 (.slice (some ⟨g,0,none⟩) cap cap) cap xs) (hnc:n ≤ cap) (hc:0 < cap) (hg1:g ≠ wb) (hg2:vk.ownBlock ≠ some g) (hg3:vk.ownBlock ≠ some wb) (hn:ks.length ≤ 1000000000) :
  Calls Tryz.prog 64 #[.pointer (some ⟨wb,0,none⟩),.slice (some ⟨g,0,none⟩) n cap] w fun e w'=>e = .returned (.tuple #[]) ∧ ∃ vk',w'.heap[wb]? = some (.cells #[vl,vk'] 34 (0,0)) ∧ KRow w' vk' (ks ++ [(g,cap)]) ∧ KAt w' ks.length (g,cap) ∧ Fr (fun x=>x = wb ∨ x = g ∨ vk.ownBlock = some x) w w' ∧ (∀ x,vk'.ownBlock = some x → vk.ownBlock = some x ∨ w.heap.size ≤ x):=by
 obtain ⟨ak,ck,rfl⟩:=hr.form
 have lw:=lt_of_block hw
 have lg:g < w.heap.size:=(World.ownsRow.lt ho g rfl).2
 have c1:w.cell? ⟨wb,1,none⟩ = some (.slice ak ks.length ck):=(cells_at hw).1 1
 have hcm:cap ≤ 9223372036854775807:=row_le ho
 have HW:=hide hw
 have HR:=hide hr
 have HO:=hide ho
 have i1:(0:Int) ≤ (cap:Int):=by omega
 have i2:((cap:Int) == 0) = false:=by simp; omega
 have i3:(n:Int) ≤ (cap:Int):=by omega
 clear hw hr ho
 go_enter Tryz.func64,Tryz.ntmps64
 go_wp2
 go_loopw [5] (fun i wr=>∃ (q:Nat) (ys:List Value),i = .int .i64 q ∧ q ≤ cap ∧ wr.ownsRow 0 62 6 (.slice (some ⟨g,0,none⟩) cap cap) cap ys ∧ Hid (Wr ks.length q ys) ∧ Fr (fun x=>x = g) w wr) (fun i _=>cap - (intOf i).toNat)
 case atStart=>exact ⟨0,xs,rfl,Nat.zero_le _,HO.out,fun j hj=>by omega,Fr.refl _ _⟩
 case round =>
  generalize wr = W1 at *
  obtain ⟨q,ys,rfl,hq,hrow,HWr,hf⟩:=hrel
  have d1:W1.cell? ⟨wb,1,none⟩ = some (.slice ak ks.length ck):=(World.cell?_of_block (hf.block wb lw (Ne.symm hg1))).trans c1
  have HRow:=hide hrow
  have HFr:=hide hf
  have hs1:=hf.size
  clear hrow hf
  by_cases hlt:q < cap
  ·have hlt':(q:Int) < (cap:Int):=by omega
   go_wp2_with fail
   refine (spoilt_any ks.length _ (by omega)).mono ?_
   rintro e w2 ⟨rfl,hb2⟩
   have hrow2:w2.ownsRow 0 62 6 (.slice (some ⟨g,0,none⟩) cap cap) cap ys:=row_keep HRow.out (fun x _ hl=>hb2.block x hl)
   have hyl:ys.length = cap * 6:=hrow2.1
   have cc:∀ t,t < 6 → ∃ u,w2.cell? ⟨g,q * 6 + t,none⟩ = some u:=fun t ht=>⟨_,(World.ownsRow.cellAt hrow2 (q * 6 + t) (by omega)).trans (List.getElem?_eq_getElem (by omega))⟩
   obtain ⟨v0,y0⟩:=cc 0 (by omega)
   obtain ⟨v1,y1⟩:=cc 1 (by omega)
   obtain ⟨v2,y2⟩:=cc 2 (by omega)
   obtain ⟨v3,y3⟩:=cc 3 (by omega)
   obtain ⟨v4,y4⟩:=cc 4 (by omega)
   obtain ⟨v5,y5⟩:=cc 5 (by omega)
   rw [Nat.add_zero] at y0
   have z0:=World.ownsRow.frozenAt hrow2 (q * 6)
   have z1:=World.ownsRow.frozenAt hrow2 (q * 6 + 1)
   have z2:=World.ownsRow.frozenAt hrow2 (q * 6 + 2)
   have z3:=World.ownsRow.frozenAt hrow2 (q * 6 + 3)
   have z4:=World.ownsRow.frozenAt hrow2 (q * 6 + 4)
   have z5:=World.ownsRow.frozenAt hrow2 (q * 6 + 5)
   have HR2:=hide hrow2
   have HYL:=hide hyl
   have HB2:=hide hb2
   unfold spV
   clear hrow2 hyl cc hb2 d1
   go_wp2
   go_roundw
   case rel =>
    obtain ⟨zs,k1,k2,k3⟩:=keep_round HR2.out HWr.out (HFr.out.trans (Fr.of_below (F:=fun _=>False) HB2.out) (fun _ _ z=>z.elim)) hlt
    exact ⟨q + 1,zs,by go_num,by omega,k1,k2,k3⟩
   case measure=>simp [intOf]; omega
  ·have hqe:q = cap:=by omega
   subst hqe
   have hall:=Wr.all HWr.out HRow.out.1
   have hkr:KRow W1 (.slice ak ks.length ck) ks:=row_keep HR.out (fun x hx hl=>HFr.out.block x hl (fun e=>hg2 (e ▸ hx)))
   have HKR:=hide hkr
   have HALL:=hide hall
   have hlt':¬ (q:Int) < (q:Int):=by omega
   obtain ⟨i0,hi,hz0,hz1,hz2⟩:=info_parts Tryz.infoEvs
   have lw1:wb < W1.heap.size:=by omega
   have bw1:W1.heap[wb]? = w.heap[wb]?:=HFr.out.block wb lw (Ne.symm hg1)
   clear hkr hall hlt
   go_wp2_with (at_builtin; refine wpList_append_foot _ rfl (.tmp 32) (.tmp 34) 32 rfl 0 64 i0 _ 1 24 Tryz.underlying32 hi hz0 hz1 hz2 rfl (by decide) (.slice ak ks.length ck) ks.length (ks.map kSl) rfl (World.ownsRow.alloc HKR.out _) ⟨W1.heap.size,0,none⟩ 1 1 [.slice (some ⟨g,0,none⟩) q q] rfl rfl (cell_one_new _ _ _) (by intro u hu; simp at hu; subst hu; rfl) (by unfold maxLen; omega) (by omega) (Nat.zero_le _) ?_; intro v9 W9 ho9 hg9 hf9; have bw9:W9.heap[wb]? = some (.cells #[vl,.slice ak ks.length ck] 34 (0,0)):=((hg9.block wb (by simp; omega) (fun e=>hg3 e.symm)).trans (Below.heap_alloc _ _ _ lw1)).trans (bw1.trans HW.out); have x1:=(cells_at bw9).1 1; have x2:=(cells_at bw9).2 1; obtain ⟨a9,c9,e9⟩:∃ a c,v9 = .slice a (ks.length + 1) c:=(by rcases ho9.2 with ⟨_,h0⟩ | ⟨g9,c9,cur9,h9,_⟩; (omega); exact ⟨_,_,h9⟩); subst e9; have HO9:=hide ho9; have HG9:=hide hg9; have HF9:=hide hf9; have HBW9:=hide bw9; clear ho9 hg9 hf9 bw9)
   go_end0
   have hne9:∀ x,(Value.slice a9 (ks.length + 1) c9).ownBlock = some x → x ≠ wb:=fun x hx e=>by
    rcases HF9.out x hx with y | y
    ·exact hg3 (e ▸ y)
    ·simp at y; omega
   refine ⟨rfl,.slice a9 (ks.length + 1) c9,Go.Joins.block_setCell (i:=1) HBW9.out _,?_,?_,⟨HG9.out.os.trans HFr.out.os,HG9.out.tape.trans HFr.out.tape,HG9.out.output.trans HFr.out.output,?_,fun x hx hne=>?_⟩,fun x hx=>?_⟩
   ·have h9:=row_keep HO9.out (w':=W9.setCell ⟨wb,1,none⟩ (.slice a9 (ks.length + 1) c9)) (fun x hx _=>Below.heap_setCell _ _ _ _ (hne9 x hx))
    unfold KRow
    rw [List.map_append,List.length_append]
    exact h9
   ·have h9:=row_keep HRow.out (w':=W9.setCell ⟨wb,1,none⟩ (.slice a9 (ks.length + 1) c9)) (fun x hx hl=>by
     have hxg:x = g:=by simpa [Value.ownBlock] using hx.symm
     subst hxg
     exact (Below.heap_setCell _ _ _ _ hg1).trans ((HG9.out.block x (by simp; omega) (fun e=>hg2 e.symm)).trans (Below.heap_alloc _ _ _ hl)))
    rw [HALL.out] at h9
    exact h9
   ·have:=HG9.out.size
    simp at this ⊢
    omega
   ·rw [Below.heap_setCell _ _ _ _ (fun e=>hne (Or.inl e)),HG9.out.block x (by simp; omega) (fun e=>hne (Or.inr (Or.inr e.symm))),Below.heap_alloc _ _ _ (by omega)]
    exact HFr.out.block x hx (fun e=>hne (Or.inr (Or.inl e)))
   ·rcases HF9.out x hx with y | y
    ·exact Or.inl y
    ·right; simp at y; omega
theorem keep_nil (wb:Nat) (w:World) :
  Calls Tryz.prog 64 #[.pointer (some ⟨wb,0,none⟩),.slice none 0 0] w fun e w'=>e = .returned (.tuple #[]) ∧ w' = w:=by
 go_enter Tryz.func64,Tryz.ntmps64
 go_wp2
 (try simp only [Exit.inBlock,Exit.then])
 refine bodyPost_ret (results_none rfl _ _ _) rfl ?_
 exact ⟨rfl,rfl⟩
theorem keep_zero (wb g:Nat) (w:World) :
  Calls Tryz.prog 64 #[.pointer (some ⟨wb,0,none⟩),.slice (some ⟨g,0,none⟩) 0 0] w fun e w'=>e = .returned (.tuple #[]) ∧ w' = w:=by
 go_enter Tryz.func64,Tryz.ntmps64
 go_wp2
 (try simp only [Exit.inBlock,Exit.then])
 refine bodyPost_ret (results_none rfl _ _ _) rfl ?_
 exact ⟨rfl,rfl⟩
theorem DocAt.bound {w:World} {F:Nat → Prop} {yb:Nat} {x:Ln} (h:DocAt w F yb x):DocAt w (fun g=>F g ∧ g < w.heap.size) yb x:=by
 obtain ⟨r0,r1,h,r⟩:=h
 obtain ⟨sl,ob,b0,b1,F0,F1,h0,h1,n,a1,a2,a3,a4,a5,f1,f2,f3,f4,f5⟩:=h.at'
 exact ⟨r0,r1,⟨sl,ob,b0,b1,F0,F1,h0,h1,n,a1,a2,a3,fun g hg=>⟨a4 g hg,(a4 g hg).2⟩,fun g hg=>⟨a5 g hg,(a5 g hg).2⟩,⟨f1,h0.lyb⟩,⟨f2,h0.lsl⟩,⟨f3,h0.lob⟩,⟨f4,h0.lsb⟩,⟨f5,h1.lsb⟩⟩,r⟩
/-- A pair: its block,the line's,the document's. -/
structure PA where
 pb:Nat
 xb:Nat
 yb:Nat
def pSl (p:PA):Value:=.pointer (some ⟨p.pb,0,none⟩)
/-- The row of pairs. -/
def PRow (w:World) (vl:Value) (ps:List PA):Prop:=w.ownsRow 0 35 1 vl ps.length (ps.map pSl)
/-- Colours: 1 the World's block,2 the row of pairs,3 the row of lists,4 a kept list's block,5 a pair's block,6 + 2 i and 7 + 2 i the i-th line's and its document's. -/
structure WC (w:World) (A:Nat → Nat) (wb:Nat) (vl vk:Value) (ps:List PA) (xs:List Ln) (ks:List (Nat × Nat)):Prop where
 blk:w.heap[wb]? = some (.cells #[vl,vk] 34 (0,0))
 c1:A wb = 1
 rp:PRow w vl ps
 c2:∀ g,vl.ownBlock = some g → A g = 2
 rk:KRow w vk ks
 c3:∀ g,vk.ownBlock = some g → A g = 3
 ka:∀ i k,ks[i]? = some k → KAt w i k
 c4:∀ (i:Nat) k,ks[i]? = some k → A k.1 = 4
 pa:∀ (i:Nat) p,ps[i]? = some p → PairAt w p.pb p.xb p.yb
 c5:∀ (i:Nat) p,ps[i]? = some p → A p.pb = 5
 la:∀ (i:Nat) p x,ps[i]? = some p → xs[i]? = some x → LineAt w (fun g=>A g = 6 + 2 * i) p.xb x
 da:∀ (i:Nat) p x,ps[i]? = some p → xs[i]? = some x → DocAt w (fun g=>A g = 7 + 2 * i) p.yb x
 len:xs.length = ps.length
 bnd:∀ g,A g ≠ 0 → g < w.heap.size
section
variable {w w':World} {A A':Nat → Nat} {wb:Nat} {vl vk vl' vk':Value} {ps:List PA} {xs:List Ln} {ks:List (Nat × Nat)}
theorem kSl_own {k:Nat × Nat} {x:Nat} (h:(kSl k).ownBlock = some x):x = k.1:=by
 simp [kSl,Value.ownBlock] at h
 exact h.symm
theorem WC.lt (h:WC w A wb vl vk ps xs ks):wb < w.heap.size:=lt_of_block h.blk
/-- What leaves its blocks alone leaves it alone. -/
theorem WC.keep (h:WC w A wb vl vk ps xs ks) (hs:w.heap.size ≤ w'.heap.size) (hk:∀ g,A g ≠ 0 → g < w.heap.size → w'.heap[g]? = w.heap[g]?):WC w' A wb vl vk ps xs ks where
 blk:=(hk wb (by rw [h.c1]; decide) h.lt).trans h.blk
 c1:=h.c1
 rp:=row_keep h.rp fun x hx hl=>hk x (by rw [h.c2 x hx]; decide) hl
 c2:=h.c2
 rk:=row_keep h.rk fun x hx hl=>hk x (by rw [h.c3 x hx]; decide) hl
 c3:=h.c3
 ka:=fun i k e=>row_keep (h.ka i k e) fun x hx hl=>hk x (by rw [kSl_own hx,h.c4 i k e]; decide) hl
 c4:=h.c4
 pa:=fun i p e=>(hk p.pb (by rw [h.c5 i p e]; decide) (lt_of_block (h.pa i p e))).trans (h.pa i p e)
 c5:=h.c5
 la:=fun i p x e e'=>(h.la i p x e e').keep hs fun g (hg:A g = 6 + 2 * i) hl=>hk g (by omega) hl
 da:=fun i p x e e'=>(h.da i p x e e').keep hs fun g (hg:A g = 7 + 2 * i) hl=>hk g (by omega) hl
 len:=h.len
 bnd:=fun g hg=>Nat.lt_of_lt_of_le (h.bnd g hg) hs
/-- The i-th line and its document's do something. -/
theorem WC.line {i:Nat} {p:PA} {x':Ln} (h:WC w A wb vl vk ps xs ks) (hp:ps[i]? = some p) (hs:w.heap.size ≤ w'.heap.size) (hA:∀ g,g < w.heap.size → A' g = A g)
  (hk:∀ g,g < w.heap.size → A g ≠ 0 → A g ≠ 6 + 2 * i → A g ≠ 7 + 2 * i → w'.heap[g]? = w.heap[g]?)
  (hl:LineAt w' (fun g=>A' g = 6 + 2 * i) p.xb x') (hd:DocAt w' (fun g=>A' g = 7 + 2 * i) p.yb x') (hb:∀ g,A' g ≠ 0 → g < w'.heap.size):WC w' A' wb vl vk ps (xs.set i x') ks where
 blk:=(hk wb h.lt (by rw [h.c1]; decide) (by rw [h.c1]; omega) (by rw [h.c1]; omega)).trans h.blk
 c1:=by rw [hA _ h.lt]; exact h.c1
 rp:=row_keep h.rp fun x hx hl=>hk x hl (by rw [h.c2 x hx]; decide) (by rw [h.c2 x hx]; omega) (by rw [h.c2 x hx]; omega)
 c2:=fun g hg=>by rw [hA g (World.ownsRow.lt h.rp g hg).2]; exact h.c2 g hg
 rk:=row_keep h.rk fun x hx hl=>hk x hl (by rw [h.c3 x hx]; decide) (by rw [h.c3 x hx]; omega) (by rw [h.c3 x hx]; omega)
 c3:=fun g hg=>by rw [hA g (World.ownsRow.lt h.rk g hg).2]; exact h.c3 g hg
 ka:=fun i k e=>row_keep (h.ka i k e) fun x hx hl=>by
  have:=h.c4 i k e
  rw [kSl_own hx] at hl ⊢
  exact hk _ hl (by omega) (by omega) (by omega)
 c4:=fun i k e=>by rw [hA _ (World.ownsRow.lt (h.ka i k e) k.1 rfl).2]; exact h.c4 i k e
 pa:=fun i p e=>by
  have:=h.c5 i p e
  exact (hk p.pb (lt_of_block (h.pa i p e)) (by omega) (by omega) (by omega)).trans (h.pa i p e)
 c5:=fun i p e=>by rw [hA _ (lt_of_block (h.pa i p e))]; exact h.c5 i p e
 la:=fun j q y e e'=>by
  by_cases hj:j = i
  ·subst hj
   rw [hp] at e
   cases e
   rw [List.getElem?_set] at e'
   simp only [if_true] at e'
   split at e'
   ·cases e'; exact hl
   ·cases e'
  ·rw [List.getElem?_set_ne (Ne.symm hj)] at e'
   refine ((h.la j q y e e').bound.keep hs ?_).mono ?_
   ·rintro g ⟨hg,hgl⟩ _
    exact hk g hgl (by omega) (by omega) (by omega)
   ·rintro g ⟨hg,hgl⟩
    show A' g = _
    rw [hA g hgl]; exact hg
 da:=fun j q y e e'=>by
  by_cases hj:j = i
  ·subst hj
   rw [hp] at e
   cases e
   rw [List.getElem?_set] at e'
   simp only [if_true] at e'
   split at e'
   ·cases e'; exact hd
   ·cases e'
  ·rw [List.getElem?_set_ne (Ne.symm hj)] at e'
   refine ((h.da j q y e e').bound.keep hs ?_).mono ?_
   ·rintro g ⟨hg,hgl⟩ _
    exact hk g hgl (by omega) (by omega) (by omega)
   ·rintro g ⟨hg,hgl⟩
    show A' g = _
    rw [hA g hgl]; exact hg
 len:=by rw [List.length_set]; exact h.len
 bnd:=hb
theorem snoc_get {α:Type} {l:List α} {a b:α} {i:Nat} (h:(l ++ [a])[i]? = some b):(i < l.length ∧ l[i]? = some b) ∨ (i = l.length ∧ b = a):=by
 rcases Nat.lt_or_ge i l.length with z | z
 ·rw [List.getElem?_append_left z] at h
  exact Or.inl ⟨z,h⟩
 ·rw [List.getElem?_append_right z] at h
  rcases Nat.eq_zero_or_pos (i - l.length) with y | y
  ·rw [y] at h
   simp only [List.getElem?_cons_zero,Option.some.injEq] at h
   exact Or.inr ⟨by omega,h.symm⟩
  ·rw [List.getElem?_eq_none (by simp; omega)] at h
   cases h
/-- What only moves blocks that are not of it,and keeps colours. -/
theorem WC.recol (h:WC w A wb vl vk ps xs ks) (hs:w.heap.size ≤ w'.heap.size) (hA:∀ g,A g ≠ 0 → A' g = A g) (hk:∀ g,A g ≠ 0 → A g ≠ 1 → A g ≠ 2 → A g ≠ 3 → g < w.heap.size → w'.heap[g]? = w.heap[g]?) :
  (∀ i k,ks[i]? = some k → KAt w' i k) ∧ (∀ (i:Nat) k,ks[i]? = some k → A' k.1 = 4) ∧ (∀ (i:Nat) p,ps[i]? = some p → PairAt w' p.pb p.xb p.yb) ∧ (∀ (i:Nat) p,ps[i]? = some p → A' p.pb = 5) ∧
  (∀ (i:Nat) p x,ps[i]? = some p → xs[i]? = some x → LineAt w' (fun g=>A' g = 6 + 2 * i) p.xb x) ∧ (∀ (i:Nat) p x,ps[i]? = some p → xs[i]? = some x → DocAt w' (fun g=>A' g = 7 + 2 * i) p.yb x):=by
 refine ⟨fun i k e=>row_keep (h.ka i k e) fun x hx hl=>?_,fun i k e=>?_,fun i p e=>?_,fun i p e=>?_,fun i p x e e'=>?_,fun i p x e e'=>?_⟩
 ·have:=h.c4 i k e
  rw [kSl_own hx] at hl ⊢
  exact hk _ (by omega) (by omega) (by omega) (by omega) hl
 ·have:=h.c4 i k e
  rw [hA _ (by omega)]; exact this
 ·have:=h.c5 i p e
  exact (hk _ (by omega) (by omega) (by omega) (by omega) (lt_of_block (h.pa i p e))).trans (h.pa i p e)
 ·have:=h.c5 i p e
  rw [hA _ (by omega)]; exact this
 ·refine ((h.la i p x e e').keep hs fun g (hg:A g = 6 + 2 * i) hl=>hk g (by omega) (by omega) (by omega) (by omega) hl).mono ?_
  intro g (hg:A g = 6 + 2 * i)
  show A' g = _
  rw [hA g (by omega)]; exact hg
 ·refine ((h.da i p x e e').keep hs fun g (hg:A g = 7 + 2 * i) hl=>hk g (by omega) (by omega) (by omega) (by omega) hl).mono ?_
  intro g (hg:A g = 7 + 2 * i)
  show A' g = _
  rw [hA g (by omega)]; exact hg
/-- A list is kept. -/
theorem WC.put {g cap:Nat} (h:WC w A wb vl vk ps xs ks) (hb':w'.heap[wb]? = some (.cells #[vl,vk'] 34 (0,0))) (hr:KRow w' vk' (ks ++ [(g,cap)])) (hk:KAt w' ks.length (g,cap))
  (hf:Fr (fun x=>x = wb ∨ x = g ∨ vk.ownBlock = some x) w w') (hv:∀ x,vk'.ownBlock = some x → vk.ownBlock = some x ∨ w.heap.size ≤ x) (hg:A g = 0) (hgl:g < w.heap.size) :
  WC w' (fun x=>if x = g then 4 else if vk'.ownBlock = some x then 3 else A x) wb vl vk' ps xs (ks ++ [(g,cap)]):=by
 have hA:∀ x,A x ≠ 0 → (if x = g then 4 else if vk'.ownBlock = some x then 3 else A x) = A x:=by
  intro x hx
  rw [if_neg (fun e:x = g=>hx (by rw [e]; exact hg))]
  split
  ·rename_i e
   rcases hv x e with y | y
   ·exact (h.c3 x y).symm
   ·have:=h.bnd x hx; omega
  ·rfl
 have hkk:∀ x,A x ≠ 0 → A x ≠ 1 → A x ≠ 3 → x < w.heap.size → w'.heap[x]? = w.heap[x]?:=by
  intro x h0 h1 h3 hl
  refine hf.block x hl ?_
  rintro (e | e | e)
  ·exact h1 (by rw [e]; exact h.c1)
  ·exact h0 (by rw [e]; exact hg)
  ·exact h3 (h.c3 x e)
 obtain ⟨r1,r2,r3,r4,r5,r6⟩:=h.recol (A':=fun x=>if x = g then 4 else if vk'.ownBlock = some x then 3 else A x) hf.size hA (fun x h0 h1 _ h3 hl=>hkk x h0 h1 h3 hl)
 refine ⟨hb',?_,?_,?_,hr,?_,?_,?_,r3,r4,r5,r6,h.len,?_⟩
 ·show (if wb = g then 4 else if vk'.ownBlock = some wb then 3 else A wb) = 1
  rw [hA wb (by rw [h.c1]; decide)]; exact h.c1
 ·exact row_keep h.rp fun x hx hl=>hkk x (by rw [h.c2 x hx]; decide) (by rw [h.c2 x hx]; decide) (by rw [h.c2 x hx]; decide) hl
 ·intro x hx
  show (if x = g then 4 else if vk'.ownBlock = some x then 3 else A x) = 2
  rw [hA x (by rw [h.c2 x hx]; decide)]; exact h.c2 x hx
 ·intro x hx
  show (if x = g then 4 else if vk'.ownBlock = some x then 3 else A x) = 3
  rw [if_neg,if_pos hx]
  intro e
  rcases hv x hx with y | y
  ·have:=h.c3 x y
   rw [e,hg] at this
   cases this
  ·omega
 ·intro i k e
  rcases snoc_get e with ⟨_,e⟩ | ⟨rfl,rfl⟩
  ·exact r1 i k e
  ·exact hk
 ·intro i k e
  rcases snoc_get e with ⟨_,e⟩ | ⟨rfl,rfl⟩
  ·exact r2 i k e
  ·exact if_pos rfl
 ·intro x hx
  by_cases e:x = g
  ·have:=hf.size; omega
  ·by_cases e':vk'.ownBlock = some x
   ·exact (World.ownsRow.lt hr x e').2
   ·simp only [e,e',if_false] at hx
    have:=h.bnd x hx
    have:=hf.size
    omega
/-- A line more. -/
theorem WC.more {q:PA} {c:Cfg} (h:WC w A wb vl vk ps xs ks) (hs:w.heap.size ≤ w'.heap.size) (hb':w'.heap[wb]? = some (.cells #[vl',vk] 34 (0,0))) (hr:PRow w' vl' (ps ++ [q]))
  (hA:∀ g,A g ≠ 0 → A' g = A g) (hk:∀ g,A g ≠ 0 → A g ≠ 1 → A g ≠ 2 → g < w.heap.size → w'.heap[g]? = w.heap[g]?) (hc2:∀ g,vl'.ownBlock = some g → A' g = 2)
  (hpa:PairAt w' q.pb q.xb q.yb) (hc5:A' q.pb = 5) (hl:LineAt w' (fun g=>A' g = 6 + 2 * ps.length) q.xb (newL c)) (hd:DocAt w' (fun g=>A' g = 7 + 2 * ps.length) q.yb (newL c)) (hb:∀ g,A' g ≠ 0 → g < w'.heap.size) :
  WC w' A' wb vl' vk (ps ++ [q]) (xs ++ [newL c]) ks:=by
 obtain ⟨r1,r2,r3,r4,r5,r6⟩:=h.recol (A':=A') hs hA (fun x h0 h1 h2 _ hl=>hk x h0 h1 h2 hl)
 have hlen:=h.len
 refine ⟨hb',by rw [hA wb (by rw [h.c1]; decide)]; exact h.c1,hr,hc2,?_,?_,r1,r2,?_,?_,?_,?_,by simp [hlen],hb⟩
 ·exact row_keep h.rk fun x hx hl=>hk x (by rw [h.c3 x hx]; decide) (by rw [h.c3 x hx]; decide) (by rw [h.c3 x hx]; decide) hl
 ·intro x hx
  rw [hA x (by rw [h.c3 x hx]; decide)]; exact h.c3 x hx
 ·intro i p e
  rcases snoc_get e with ⟨_,e⟩ | ⟨rfl,rfl⟩
  ·exact r3 i p e
  ·exact hpa
 ·intro i p e
  rcases snoc_get e with ⟨_,e⟩ | ⟨rfl,rfl⟩
  ·exact r4 i p e
  ·exact hc5
 ·intro i p x e e'
  rcases snoc_get e with ⟨y,e⟩ | ⟨rfl,rfl⟩
  ·rcases snoc_get e' with ⟨_,e'⟩ | ⟨z,_⟩
   ·exact r5 i p x e e'
   ·omega
  ·rcases snoc_get e' with ⟨z,_⟩ | ⟨_,rfl⟩
   ·omega
   ·exact hl
 ·intro i p x e e'
  rcases snoc_get e with ⟨y,e⟩ | ⟨rfl,rfl⟩
  ·rcases snoc_get e' with ⟨_,e'⟩ | ⟨z,_⟩
   ·exact r6 i p x e e'
   ·omega
  ·rcases snoc_get e' with ⟨z,_⟩ | ⟨_,rfl⟩
   ·omega
   ·exact hd
end
/-- The World,of which so much was done. -/
def WAt (w:World) (A:Nat → Nat) (wb:Nat) (ps:List PA) (n:Nat):Prop:=∃ vl vk xs ks,WC w A wb vl vk ps xs ks ∧ (∀ x ∈ xs,LFit n x) ∧ ks.length ≤ n
/-- What a step leaves. -/
def Nx (A:Nat → Nat) (wb:Nat) (ps:List PA) (n:Nat) (w w':World):Prop:=∃ A',WAt w' A' wb ps n ∧ Fr (fun g=>A g ≠ 0) w w' ∧ ∀ g,g < w.heap.size → A g = 0 → A' g = 0
section
variable {w w' w'':World} {A A':Nat → Nat} {wb n m:Nat} {ps qs:List PA}
theorem WAt.keep (h:WAt w A wb ps n) (hs:w.heap.size ≤ w'.heap.size) (hk:∀ g,A g ≠ 0 → g < w.heap.size → w'.heap[g]? = w.heap[g]?):WAt w' A wb ps n:=by
 obtain ⟨vl,vk,xs,ks,h,r⟩:=h
 exact ⟨vl,vk,xs,ks,h.keep hs hk,r⟩
theorem WAt.below (h:WAt w A wb ps n) (k:Below w.heap.size w w'):WAt w' A wb ps n:=h.keep k.size fun g _ hg=>k.block g hg
theorem WAt.le (h:WAt w A wb ps n) (k:n ≤ m):WAt w A wb ps m:=by
 obtain ⟨vl,vk,xs,ks,h,r,s⟩:=h
 exact ⟨vl,vk,xs,ks,h,fun x hx=>(r x hx).le k,Nat.le_trans s k⟩
theorem WAt.bnd (h:WAt w A wb ps n):∀ g,A g ≠ 0 → g < w.heap.size:=by
 obtain ⟨vl,vk,xs,ks,h,_⟩:=h
 exact h.bnd
theorem WAt.lt (h:WAt w A wb ps n):wb < w.heap.size:=by
 obtain ⟨vl,vk,xs,ks,h,_⟩:=h
 exact h.lt
theorem WAt.nx (h:WAt w A wb ps n) (k:Below w.heap.size w w'):Nx A wb ps n w w':=⟨A,h.below k,Fr.of_below k,fun _ _ e=>e⟩
theorem Nx.trans (h:Nx A wb ps n w w') (k:∀ A',WAt w' A' wb ps n → Nx A' wb qs m w' w''):Nx A wb qs m w w'':=by
 obtain ⟨A1,h1,f1,z1⟩:=h
 obtain ⟨A2,h2,f2,z2⟩:=k A1 h1
 refine ⟨A2,h2,f1.trans f2 (fun g hg e z=>e (z1 g hg z)),fun g hg z=>z2 g (Nat.lt_of_lt_of_le hg f1.size) (z1 g hg z)⟩
theorem Nx.le (h:Nx A wb ps n w w') (k:n ≤ m):Nx A wb ps m w w':=by
 obtain ⟨A1,h1,r⟩:=h
 exact ⟨A1,h1.le k,r⟩
theorem Nx.below (h:Nx A wb ps n w w') (k:Below w'.heap.size w' w''):Nx A wb ps n w w'':=h.trans fun _ h'=>h'.nx k
/-- The World where boxes have come ahead of it. -/
theorem Nx.pre (k:Below w.heap.size w w') (h:Nx A wb ps n w' w''):Nx A wb ps n w w'':=by
 obtain ⟨A1,h1,f1,z1⟩:=h
 exact ⟨A1,h1,(Fr.of_below (F:=fun g=>A g ≠ 0) k).trans f1 (fun g _ e=>e),fun g hg z=>z1 g (Nat.lt_of_lt_of_le hg k.size) z⟩
end
/-- The i-th pair,lent. -/
structure Lent (w:World) (A:Nat → Nat) (wb:Nat) (ps:List PA) (n:Nat) (p:PA) (x:Ln) (F G:Nat → Prop):Prop where
 l:LineAt w F p.xb x
 d:DocAt w G p.yb x
 pr:PairAt w p.pb p.xb p.yb
 fit:LFit n x
 fa:∀ g,F g → A g ≠ 0
 ga:∀ g,G g → A g ≠ 0
 fg:∀ g,F g → ¬ G g
 fp:¬ F p.pb
 gp:¬ G p.pb
 lt:p.pb < w.heap.size
 back:∀ (w1 w2:World) (x':Ln) (m:Nat) (E:Nat → Prop) [DecidablePred E],Fr F w w1 → LineAt w1 (fun g=>Plus F w g ∧ ¬ E g) p.xb x' → Fr G w1 w2 → DocAt w2 (Plus G w1) p.yb x' → (∀ g,E g → w.heap.size ≤ g ∧ g < w1.heap.size) → n ≤ m → LFit m x' →
  ∃ A',WAt w2 A' wb ps m ∧ Fr (fun g=>A g ≠ 0) w w2 ∧ (∀ g,g < w.heap.size → A' g = A g) ∧ ∀ g,E g → A' g = 0
theorem WAt.lend {w:World} {A:Nat → Nat} {wb n i:Nat} {ps:List PA} {p:PA} (h:WAt w A wb ps n) (hp:ps[i]? = some p):∃ x F G,Lent w A wb ps n p x F G:=by
 obtain ⟨vl,vk,xs,ks,hw,hf,hn⟩:=h
 have hil:i < xs.length:=by rw [hw.len]; exact (List.getElem?_eq_some_iff.1 hp).1
 obtain ⟨x,hx⟩:∃ x,xs[i]? = some x:=⟨_,List.getElem?_eq_getElem hil⟩
 have c5:=hw.c5 i p hp
 refine ⟨x,fun g=>A g = 6 + 2 * i,fun g=>A g = 7 + 2 * i,hw.la i p x hp hx,hw.da i p x hp hx,hw.pa i p hp,hf x (List.mem_of_getElem? hx),fun g (hg:A g = 6 + 2 * i)=>by omega,fun g (hg:A g = 7 + 2 * i)=>by omega,fun g (hg:A g = 6 + 2 * i) (k:A g = 7 + 2 * i)=>by omega,by omega,by omega,lt_of_block (hw.pa i p hp),?_⟩
 intro w1 w2 x' m E _ f1 hl f2 hd hE hnm hfit
 have s1:=f1.size
 have s2:=f2.size
 have old:∀ g,g < w.heap.size → A g ≠ 6 + 2 * i → A g ≠ 7 + 2 * i → w2.heap[g]? = w.heap[g]?:=fun g hg h6 h7=>(f2.block g (by omega) h7).trans (f1.block g hg h6)
 let A':Nat → Nat:=fun g=>if g < w.heap.size then A g else if E g then 0 else if g < w1.heap.size then 6 + 2 * i else if g < w2.heap.size then 7 + 2 * i else 0
 have hA:∀ g,g < w.heap.size → A' g = A g:=fun g hg=>if_pos hg
 refine ⟨A',⟨vl,vk,xs.set i x',ks,hw.line hp (by omega) hA (fun g hg _ h6 h7=>old g hg h6 h7) ?_ ?_ ?_,?_,by omega⟩,?_,hA,?_⟩
 ·refine (hl.bound.keep s2 ?_).mono ?_
  ·rintro g ⟨⟨y | y,ne⟩,gl⟩ _
   ·exact f2.block g gl (fun (z:A g = 7 + 2 * i)=>by have y':A g = 6 + 2 * i:=y; omega)
   ·exact f2.block g gl (fun (z:A g = 7 + 2 * i)=>by have:=hw.bnd g (by omega); omega)
  ·rintro g ⟨⟨y | y,ne⟩,gl⟩
   ·show A' g = _
    rw [hA g (hw.bnd g (by have y':A g = 6 + 2 * i:=y; omega))]; exact y
   ·show (if g < w.heap.size then A g else if E g then 0 else if g < w1.heap.size then 6 + 2 * i else if g < w2.heap.size then 7 + 2 * i else 0) = _
    rw [if_neg (by omega),if_neg ne,if_pos gl]
 ·refine hd.bound.mono ?_
  rintro g ⟨y | y,gl⟩
  ·show A' g = _
   rw [hA g (hw.bnd g (by have y':A g = 7 + 2 * i:=y; omega))]; exact y
  ·show (if g < w.heap.size then A g else if E g then 0 else if g < w1.heap.size then 6 + 2 * i else if g < w2.heap.size then 7 + 2 * i else 0) = _
   rw [if_neg (by omega),if_neg (fun e=>by have:=(hE g e).2; omega),if_neg (by omega),if_pos gl]
 ·intro g hg
  by_cases z:g < w2.heap.size
  ·exact z
  ·exfalso
   apply hg
   show (if g < w.heap.size then A g else if E g then 0 else if g < w1.heap.size then 6 + 2 * i else if g < w2.heap.size then 7 + 2 * i else 0) = 0
   rw [if_neg (by omega)]
   split
   ·rfl
   ·simp [show ¬ g < w1.heap.size by omega]
 ·intro y hy
  rcases List.mem_or_eq_of_mem_set hy with k | k
  ·exact (hf y k).le hnm
  ·rw [k]; exact hfit
 ·refine ⟨f2.os.trans f1.os,f2.tape.trans f1.tape,f2.output.trans f1.output,by omega,fun g hg z=>?_⟩
  have z':A g = 0:=by simpa using z
  exact old g hg (by omega) (by omega)
 ·intro g e
  have:=hE g e
  show (if g < w.heap.size then A g else if E g then 0 else if g < w1.heap.size then 6 + 2 * i else if g < w2.heap.size then 7 + 2 * i else 0) = 0
  rw [if_neg (by omega),if_pos e]
end Go.Proofs.YtlbpjcphhocdkaaGreat
