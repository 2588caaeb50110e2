/- The document's functions beneath Read: the block that is guessed. -/
import Derived.Test.YtlbpjcphhocdkaaGreatQ15
set_option maxRecDepth 1000000
set_option maxHeartbeats 16000000
namespace Go.Proofs.YtlbpjcphhocdkaaGreat
open Go.RowKit
def refF (u:UInt8):Bool:=decide (¬ u.toNat = 2 ∧ ¬ u.toNat = 16)
theorem refF_ok (u:UInt8) (h:Blk.isCtl u = false):refF u = true:=by
 unfold Blk.isCtl at h
 simp only [decide_eq_false_iff_not] at h
 unfold refF
 simp only [decide_eq_true_eq]
 omega
/-- Behind some parts: where the next one begins,and the texts; there is a next one. -/
def GInv (kk:Int) (s:ByteArray) (k:Nat) (l:List ByteArray):Prop :=
 ∀ h0 ps0 c0 t0 y,Prs.Good kk s.data.toList h0 ps0 c0 t0 y → l.length < ps0.length ∧ k = (Prs.pre h0 ps0 c0 t0 kk l.length).length ∧ datas l = ps0.take l.length
theorem GInv.start {kk:Int} {s:ByteArray} {k:Nat} (hk:∀ h0 ps0 c0 t0 y,Prs.Good kk s.data.toList h0 ps0 c0 t0 y → k = (Blk.openL h0 c0).length):GInv kk s k []:=by
 intro h0 ps0 c0 t0 y g
 have n1:=(Blk.berr_ok g.ok).2.1
 exact ⟨by simp; omega,by rw [hk _ _ _ _ _ g]; rfl,rfl⟩
theorem GInv.inside {kk:Int} {s:ByteArray} {k:Nat} {l:List ByteArray} (h:GInv kk s k l) {h0:List UInt8} {ps0:List (List UInt8)} {c0 t0:Bool} {y:List UInt8} (g:Prs.Good kk s.data.toList h0 ps0 c0 t0 y):k < s.size ∧ l.length ≤ 4:=by
 obtain ⟨h1,h2,h3⟩:=h _ _ _ _ _ g
 have n4:=(Blk.berr_ok g.ok).2.2.1
 obtain ⟨z,hz⟩:=g.part l.length h1
 rw [← h2] at hz
 have:=congrArg List.length hz
 simp only [List.length_append,List.length_drop,Prs.esc_len,size_list] at this
 have hc:1 ≤ (if c0 then 2 else 1:Nat):=by split <;> omega
 exact ⟨by omega,by omega⟩
theorem GInv.cut {kk:Int} {s:ByteArray} {k:Nat} {l:List ByteArray} (h:GInv kk s k l) {c ok:Bool} {r:ByteArray} {nx:Nat} (ha:PartAns c s k r nx ok)
  {h0:List UInt8} {ps0:List (List UInt8)} {t0:Bool} {y:List UInt8} (g:Prs.Good kk s.data.toList h0 ps0 c t0 y) :
  ok = true ∧ r.data.toList = ps0.getD l.length [] ∧ s.data.toList.getD nx 0 = Blk.endC t0 ps0.length l.length ∧ nx = k + ((Blk.txt c (ps0.getD l.length [])).length + (if c then 1 else 0)):=by
 obtain ⟨h1,h2,h3⟩:=h _ _ _ _ _ g
 have q:=g.cutR l.length h1
 rw [← h2] at q
 have hok:ok = true:=by
  cases ok
  ·have:=ha.2 rfl
   rw [q.1] at this
   cases this
  ·rfl
 obtain ⟨q',e1,e2,e3⟩:=ha.1 hok
 rw [q.1] at e1
 simp only [Option.some.injEq] at e1
 subst e1
 simp only at e2 e3
 refine ⟨hok,e2.data,?_,e3⟩
 rw [e3]
 exact q.2
theorem datas_grow {l:List ByteArray} {r:ByteArray} {ps:List (List UInt8)} (h:datas l = ps.take l.length) (hl:l.length < ps.length) (hr:r.data.toList = ps.getD l.length []):datas (l ++ [r]) = ps.take (l.length + 1):=by
 rw [List.take_succ_eq_append_getElem hl,← h]
 have e:r.data.toList = ps[l.length]:=by rw [hr]; simp [List.getD,List.getElem?_eq_getElem hl]
 rw [← e]
 simp [datas]
theorem GInv.next {kk:Int} {s:ByteArray} {k nn:Nat} {l:List ByteArray} (h:GInv kk s k l) {c ok:Bool} {r:ByteArray} {nx:Nat} (ha:PartAns c s k r nx ok) (hc:∀ h0 ps0 c0 t0 y,Prs.Good kk s.data.toList h0 ps0 c0 t0 y → c = c0) (h31:(s.data.toList.getD nx 0).toNat = 31) (hn:nn = nx + 2 + kk.toNat):GInv kk s nn (l ++ [r]):=by
 intro h0 ps0 c0 t0 y g
 obtain rfl:=hc _ _ _ _ _ g
 obtain ⟨h1,h2,h3⟩:=h _ _ _ _ _ g
 obtain ⟨_,c2,c3,c4⟩:=h.cut ha g
 have hlt:l.length + 1 < ps0.length:=by
  rcases Nat.lt_or_ge (l.length + 1) ps0.length with h | h
  ·exact h
  ·have:=(Prs.endC_end' t0 ps0.length l.length (by omega)).1
   rw [← c3] at this
   exact absurd h31 this
 have hl:(l ++ [r]).length = l.length + 1:=by simp
 rw [hl]
 refine ⟨hlt,?_,datas_grow h3 h1 c2⟩
 rw [g.step,← h2,hn,c4]
 split <;> omega
theorem GInv.last {kk:Int} {s:ByteArray} {k:Nat} {l:List ByteArray} (h:GInv kk s k l) {c ok:Bool} {r:ByteArray} {nx:Nat} (ha:PartAns c s k r nx ok) (h31:¬ (s.data.toList.getD nx 0).toNat = 31)
  {h0:List UInt8} {ps0:List (List UInt8)} {t0:Bool} {y:List UInt8} (g:Prs.Good kk s.data.toList h0 ps0 c t0 y):datas (l ++ [r]) = ps0 ∧ decide ((s.data.toList.getD nx 0).toNat = 3) = t0:=by
 obtain ⟨h1,h2,h3⟩:=h _ _ _ _ _ g
 obtain ⟨_,c2,c3,c4⟩:=h.cut ha g
 have hlt:¬ l.length + 1 < ps0.length:=by
  intro h
  have:=Prs.endC_mid' t0 ps0.length l.length h
  rw [← c3] at this
  exact h31 this
 have e:=datas_grow h3 h1 c2
 rw [List.take_of_length_le (by omega)] at e
 refine ⟨e,?_⟩
 have q:=(Prs.endC_end' t0 ps0.length l.length hlt).2
 rw [← c3] at q
 cases t0 <;> simp_all
theorem openL_len (h:List UInt8) (c:Bool):(Blk.openL h c).length = (if h = [] then 0 else 1 + h.length) + (if c then 1 else 0) + 1:=by
 unfold Blk.openL
 by_cases hn:h = []
 ·subst hn; cases c <;> simp
 ·cases c <;> simp [hn] <;> omega
/-- The head and the mark,as the document's guess finds them. -/
theorem guess_head {kk:Int} {s:ByteArray} {h:List UInt8} {k:Nat} (hh:Prs.headP refF s.data.toList = h) (hk:(s.data.toList.getD 0 0).toNat = 1 → k = 1 + h.length) (hk':¬ (s.data.toList.getD 0 0).toNat = 1 → k = 0)
  {h0:List UInt8} {ps0:List (List UInt8)} {c0 t0:Bool} {y:List UInt8} (g:Prs.Good kk s.data.toList h0 ps0 c0 t0 y) :
  h = h0 ∧ decide ((s.data.toList.getD k 0).toNat = 16) = c0 ∧ k + (if c0 then 1 else 0) + 1 = (Blk.openL h0 c0).length:=by
 have q:=g.head refF refF_ok rfl rfl
 have e1:h = h0:=hh.symm.trans q.1
 subst e1
 have hkk:k = if h = [] then 0 else 1 + h.length:=by
  obtain ⟨z,hz⟩:=g.openR
  have h1:(s.data.toList.getD 0 0).toNat = 1 ↔ ¬ h = []:=by
   rw [hz]
   unfold Blk.openL
   by_cases hn:h = []
   ·subst hn; cases c0 <;> simp
   ·simp [hn]
  by_cases hn:h = []
  ·rw [if_pos hn]; exact hk' (fun h=>(h1.1 h) hn)
  ·rw [if_neg hn]; exact hk (h1.2 hn)
 refine ⟨rfl,?_,?_⟩
 ·rw [hkk]; exact q.2
 ·rw [openL_len,hkk]
theorem guess_no (s:ByteArray) (kk:Int) (w:World) (hs:s.size ≤ 140737488352000) (h1:1 ≤ s.size) (hkk:kk = 0 ∨ kk = 1) (hso:¬ s[0].toNat = 1) :
  Calls Tryz.prog 78 #[.string s,.int .i64 kk] w fun e w'=>FoundAns kk s w e w':=by
 have HK:=hide hkk
 have hk1:0 ≤ kk ∧ kk ≤ 1:=by omega
 clear hkk
 have h0':(0:Int) < (s.size:Int):=by omega
 have d0:((s[0].toNat:Int) == 1) = false:=by simp; omega
 have hg0:=getD_in s 0 (by omega)
 have hH:Prs.headP refF s.data.toList = []:=by unfold Prs.headP; rw [hg0,if_neg hso]
 have hh:(⟨#[]⟩:ByteArray).size ≤ s.size:=Nat.zero_le _
 have HGH:Hid (∀ (h0:List UInt8) (ps0:List (List UInt8)) (c0 t0:Bool) (y:List UInt8),Prs.Good kk s.data.toList h0 ps0 c0 t0 y → [] = h0 ∧ decide ((s.data.toList.getD 0 0).toNat = 16) = c0 ∧ 0 + (if c0 then 1 else 0) + 1 = (Blk.openL h0 c0).length):=fun h0 ps0 c0 t0 y g=>guess_head (k:=0) hH (fun h=>by rw [hg0] at h; exact absurd h hso) (fun _=>rfl) g
 by_cases hdl:s[0].toNat = 16
 ·have d1:((s[0].toNat:Int) == 16) = true:=by simp [hdl]
  have HG:Hid (∀ h0 ps0 c0 t0 y,Prs.Good kk s.data.toList h0 ps0 c0 t0 y → (⟨#[]⟩:ByteArray).data.toList = h0 ∧ true = c0 ∧ 2 = (Blk.openL h0 c0).length):=by
   intro h0 ps0 c0 t0 y g
   have q:=HGH.out _ _ _ _ _ g
   rw [hg0] at q
   have hc:true = c0:=by rw [← q.2.1]; simp [hdl]
   subst hc
   exact ⟨q.1,rfl,q.2.2⟩
  clear hso hdl hg0 hH
  go_enter Tryz.func78,Tryz.ntmps78
  go_wp2
  have HZ0:=hide (blk_alloc (BlkAt.new w (.string ⟨#[]⟩) (.slice none 0 0) (.bool false) (.bool false)) (.cells #[.string ⟨#[]⟩,.slice none 0 0,.bool true,.bool false] 57))
  have HB0:=hide (BlkAt.new (w.alloc (.cells #[.string ⟨#[]⟩,.slice none 0 0,.bool false,.bool false] 57)) (.string ⟨#[]⟩) (.slice none 0 0) (.bool true) (.bool false))
  have HW0:Hid (Below w.heap.size w ((w.alloc (.cells #[.string ⟨#[]⟩,.slice none 0 0,.bool false,.bool false] 57)).alloc (.cells #[.string ⟨#[]⟩,.slice none 0 0,.bool true,.bool false] 57))):=((Below.refl _ _).alloc (Nat.le_refl _) _).alloc (by simp) _
  have HS0:Hid (GInv kk s (2) []):=GInv.start (fun h0 ps0 c0 t0 y g=>(HG.out _ _ _ _ _ g).2.2)
  simp only [World.size_alloc] at HB0
  go_loopw [5] (fun i wr=>∃ (k:Nat) (l:List ByteArray) (v tv:Value),i = .int .i64 k ∧ Hid (∃ t':Bool,tv = .bool t') ∧ l.length ≤ 5 ∧ k ≤ s.size + 3 ∧ Hid (∀ r ∈ l,r.size ≤ s.size) ∧ Hid (GInv kk s k l) ∧ OwnS wr (w.heap.size + 2) v l ∧ zBlk wr w.heap.size ∧ BlkAt wr (w.heap.size + 1) (.string ⟨#[]⟩) v (.bool true) tv ∧ w.heap.size + 2 ≤ wr.heap.size ∧ Below w.heap.size w wr) (fun _ wr=>6 - partsLen wr (w.heap.size + 1))
  case atStart=>exact ⟨2,[],.slice none 0 0,.bool false,by go_num,⟨false,rfl⟩,by simp,by omega,by simp [Hid],HS0,OwnS.nil _ _,HZ0.out,HB0.out,by simp,HW0.out⟩
  case round =>
   obtain ⟨k,l,v,tv,rfl,HTV,hl5,hk,HL,HF,hS,hz,hB,hsz,hbel⟩:=hrel
   obtain ⟨t',rfl⟩:=HTV.out
   obtain ⟨a,cap,rfl,_⟩:=hS.texts
   have HPL:=hide (partsLen_at hB)
   have f0:=hB.cell0
   have f1:=hB.cell1
   have f2:=hB.cell2
   have f3:=hB.cell3
   by_cases hgo:k < s.size ∧ l.length ≤ 4
   ·have g1:(k:Int) < (s.size:Int):=by omega
    have g2:(l.length:Int) ≤ 4:=by omega
    have hl4:=hgo.2
    clear hgo
    have HS:=hide hS
    have HZ:=hide hz
    have HB:=hide hB
    clear hS hz hB
    go_wp2_with fail
    refine (part_any s k true _ hs (by omega)).mono ?_
    rintro e w1 ⟨r,nx,ok,rfl,HA,hr,hnx,hb1⟩
    have hB1:=HB.out.below hb1 (lt_of_block HB.out)
    have hZ1:=HZ.out.below hb1 (lt_of_block HZ.out)
    have hw1:=below_step hbel hb1
    have hz1:=hb1.size
    cases ok
    ·have e0:=hB1.cell0
     have e1:=hB1.cell1
     have e2:=hB1.cell2
     have e3:=hB1.cell3
     have z0:=hZ1.cell0
     have z1:=hZ1.cell1
     have z2:=hZ1.cell2
     have z3:=hZ1.cell3
     have y0:=blk_free hZ1 0
     have y1:=blk_free hZ1 1
     have y2:=blk_free hZ1 2
     have y3:=blk_free hZ1 3
     have HZ1:=hide hZ1
     have HW1:=hide hw1
     have HS1:=hide (HS.out.below hb1)
     clear hB1 hZ1 hw1 hb1
     go_wp2
     (try simp only [Exit.inBlock,Exit.then])
     refine bodyPost_ret (results_blk rfl _ _ w.heap.size rfl (blk_all HZ1.out)) rfl ?_
     refine ⟨⟨#[]⟩,_,l,true,t',rfl,hh,HL,hl5,((((HS1.out.setCell (by omega)).setCell (by omega)).setCell (by omega)).setCell (by omega)).mono (by omega),?_,((((HW1.out).setCell (by simp) _).setCell (by simp) _).setCell (by simp) _).setCell (by simp) _⟩
     intro h0 ps0 c0 t0 y g
     obtain ⟨_,rfl,_⟩:=HG.out _ _ _ _ _ g
     have:=(HF.out.cut HA.out g).1
     cases this
    ·have hnx:=hnx rfl
     have hgd:=getD_in s nx hnx
     have e1:=hB1.cell1
     have HB1:=hide hB1
     have HZ1:=hide hZ1
     have HW1:=hide hw1
     have HS1:=hide (HS.out.below hb1)
     have hnx':(nx:Int) < (s.size:Int):=by omega
     have HGD:=hide hgd
     clear hB1 hZ1 hw1 hb1 hgd
     have hfin:∀ (a2:Option Addr) (n2 cap2:Nat) (W2:World),Below (w.heap.size + 2) w1 W2 → BlkAt ((W2.setCell ⟨w.heap.size + 1,1,none⟩ (.slice a2 n2 cap2)).setCell ⟨w.heap.size + 1,3,none⟩ (.bool ((s[nx].toNat:Int) == 3))) (w.heap.size + 1) (.string ⟨#[]⟩) (.slice a2 n2 cap2) (.bool true) (.bool ((s[nx].toNat:Int) == 3)) ∧ zBlk ((W2.setCell ⟨w.heap.size + 1,1,none⟩ (.slice a2 n2 cap2)).setCell ⟨w.heap.size + 1,3,none⟩ (.bool ((s[nx].toNat:Int) == 3))) w.heap.size ∧ BlkAt (W2.setCell ⟨w.heap.size + 1,1,none⟩ (.slice a2 n2 cap2)) (w.heap.size + 1) (.string ⟨#[]⟩) (.slice a2 n2 cap2) (.bool true) (.bool t'):=by
      intro a2 n2 cap2 W2 hb
      exact ⟨blk_set3 (blk_set1 (HB1.out.below hb (by omega))),blk_other (blk_other (HZ1.out.below hb (by omega)) (by omega)) (by omega),blk_set1 (HB1.out.below hb (by omega))⟩
     have HFIN:=hide hfin
     clear hfin
     by_cases h31:s[nx].toNat = 31
     ·have d31:((s[nx].toNat:Int) != 31) = false:=by simp [h31]
      have HN:Hid (GInv kk s (nx + 2 + kk.toNat) (l ++ [r])):=HF.out.next HA.out (fun h0 ps0 c0 t0 y g=>(HG.out _ _ _ _ _ g).2.1) (by rw [HGD.out]; exact h31) rfl
      clear h31
      go_wp2_with (first | (at_builtin; refine app_txt _ r rfl (.tmp 74) (.tmp 76) rfl (w.heap.size + 2) _ l _ 1 rfl rfl rfl HS1.out (by omega) w1 (Below.refl _ _) (by omega) ?_; intro v2 W2 hS2 hbel2 hB2; obtain ⟨a2,cap2,rfl,_⟩:=hS2.texts; rw [List.length_append] at hS2; have HS2:=hide hS2; clear hS2; have f4:=(HB1.out.below hbel2 (by omega)).cell1; have f5:=blk_free (HB1.out.below hbel2 (by omega)) 1; have f6:=(HFIN.out a2 (l.length + 1) cap2 W2 hbel2).2.2.cell3; have f7:=blk_free (HFIN.out a2 (l.length + 1) cap2 W2 hbel2).2.2 3))
      go_roundw
      case rel =>
       refine ⟨nx + 2 + kk.toNat,l ++ [r],.slice a2 (l.length + 1) cap2,.bool ((s[nx].toNat:Int) == 3),by go_num,⟨_,rfl⟩,by simp; omega,by omega,mem_snoc_le HL.out hr,HN,(HS2.out.setCell (by omega)).setCell (by omega),(HFIN.out a2 (l.length + 1) cap2 W2 hbel2).2.1,(HFIN.out a2 (l.length + 1) cap2 W2 hbel2).1,by simp; omega,?_⟩
       exact ((HW1.out.trans (hbel2.mono (by omega))).setCell (by simp) _).setCell (by simp) _
      case measure =>
       rw [HPL.out,partsLen_at (HFIN.out a2 (l.length + 1) cap2 W2 hbel2).1]
       omega
     ·have d31:((s[nx].toNat:Int) != 31) = true:=by simp; omega
      have HN:Hid (∀ (h0:List UInt8) (ps0:List (List UInt8)) (t0:Bool) (y:List UInt8),Prs.Good kk s.data.toList h0 ps0 true t0 y → datas (l ++ [r]) = ps0 ∧ decide ((s.data.toList.getD nx 0).toNat = 3) = t0):=fun h0 ps0 t0 y g=>HF.out.last HA.out (by rw [HGD.out]; exact h31) g
      clear h31
      go_wp2_with (first | (at_builtin; refine app_txt _ r rfl (.tmp 74) (.tmp 76) rfl (w.heap.size + 2) _ l _ 1 rfl rfl rfl HS1.out (by omega) w1 (Below.refl _ _) (by omega) ?_; intro v2 W2 hS2 hbel2 hB2; obtain ⟨a2,cap2,rfl,_⟩:=hS2.texts; rw [List.length_append] at hS2; have HS2:=hide hS2; clear hS2; have f4:=(HB1.out.below hbel2 (by omega)).cell1; have f5:=blk_free (HB1.out.below hbel2 (by omega)) 1; have f6:=(HFIN.out a2 (l.length + 1) cap2 W2 hbel2).2.2.cell3; have f7:=blk_free (HFIN.out a2 (l.length + 1) cap2 W2 hbel2).2.2 3; have e0:=(HFIN.out a2 (l.length + 1) cap2 W2 hbel2).1.cell0; have e1:=(HFIN.out a2 (l.length + 1) cap2 W2 hbel2).1.cell1; have e2:=(HFIN.out a2 (l.length + 1) cap2 W2 hbel2).1.cell2; have e3:=(HFIN.out a2 (l.length + 1) cap2 W2 hbel2).1.cell3; have z0:=(HFIN.out a2 (l.length + 1) cap2 W2 hbel2).2.1.cell0; have z1:=(HFIN.out a2 (l.length + 1) cap2 W2 hbel2).2.1.cell1; have z2:=(HFIN.out a2 (l.length + 1) cap2 W2 hbel2).2.1.cell2; have z3:=(HFIN.out a2 (l.length + 1) cap2 W2 hbel2).2.1.cell3; have y0:=blk_free (HFIN.out a2 (l.length + 1) cap2 W2 hbel2).2.1 0; have y1:=blk_free (HFIN.out a2 (l.length + 1) cap2 W2 hbel2).2.1 1; have y2:=blk_free (HFIN.out a2 (l.length + 1) cap2 W2 hbel2).2.1 2; have y3:=blk_free (HFIN.out a2 (l.length + 1) cap2 W2 hbel2).2.1 3))
      (try simp only [Exit.inBlock,Exit.then])
      refine bodyPost_ret (results_blk rfl _ _ w.heap.size rfl (blk_all (HFIN.out a2 (l.length + 1) cap2 W2 hbel2).2.1)) rfl ?_
      refine ⟨⟨#[]⟩,.slice a2 (l.length + 1) cap2,l ++ [r],true,((s[nx].toNat:Int) == 3),rfl,hh,mem_snoc_le HL.out hr,by simp; omega,((((((HS2.out.setCell (by omega)).setCell (by omega)).setCell (by omega)).setCell (by omega)).setCell (by omega)).setCell (by omega)).mono (by omega),?_,?_⟩
      ·intro h0 ps0 c0 t0 y g
       obtain ⟨q1,rfl,_⟩:=HG.out _ _ _ _ _ g
       have q:=HN.out _ _ _ _ g
       refine ⟨q1,q.1,rfl,?_⟩
       rw [← q.2,HGD.out,Bool.eq_iff_iff]
       simp only [decide_eq_true_eq,beq_iff_eq]
       omega
      ·exact ((((((HW1.out.trans (hbel2.mono (by omega))).setCell (by simp) _).setCell (by simp) _).setCell (by simp) _).setCell (by simp) _).setCell (by simp) _).setCell (by simp) _
   ·have HS:=hide hS
    have z0:=hz.cell0
    have z1:=hz.cell1
    have z2:=hz.cell2
    have z3:=hz.cell3
    have y0:=blk_free hz 0
    have y1:=blk_free hz 1
    have y2:=blk_free hz 2
    have y3:=blk_free hz 3
    have HZ:=hide hz
    have HNG:Hid (¬ (k < s.size ∧ l.length ≤ 4)):=hgo
    clear hS hz hB
    by_cases g1:(k:Int) < (s.size:Int)
    ·have g2:¬ (l.length:Int) ≤ 4:=by omega
     clear hgo
     go_wp2
     (try simp only [Exit.inBlock,Exit.then])
     refine bodyPost_ret (results_blk rfl _ _ w.heap.size rfl (blk_all HZ.out)) rfl ?_
     refine ⟨⟨#[]⟩,_,l,true,t',rfl,hh,HL,hl5,((((HS.out.setCell (by omega)).setCell (by omega)).setCell (by omega)).setCell (by omega)).mono (by omega),?_,(((hbel.setCell (by simp) _).setCell (by simp) _).setCell (by simp) _).setCell (by simp) _⟩
     intro h0 ps0 c0 t0 y g
     exact absurd (HF.out.inside g) HNG.out
    ·clear hgo
     go_wp2
     (try simp only [Exit.inBlock,Exit.then])
     refine bodyPost_ret (results_blk rfl _ _ w.heap.size rfl (blk_all HZ.out)) rfl ?_
     refine ⟨⟨#[]⟩,_,l,true,t',rfl,hh,HL,hl5,((((HS.out.setCell (by omega)).setCell (by omega)).setCell (by omega)).setCell (by omega)).mono (by omega),?_,(((hbel.setCell (by simp) _).setCell (by simp) _).setCell (by simp) _).setCell (by simp) _⟩
     intro h0 ps0 c0 t0 y g
     exact absurd (HF.out.inside g) HNG.out
 ·have d1:((s[0].toNat:Int) == 16) = false:=by simp; omega
  have HG:Hid (∀ h0 ps0 c0 t0 y,Prs.Good kk s.data.toList h0 ps0 c0 t0 y → (⟨#[]⟩:ByteArray).data.toList = h0 ∧ false = c0 ∧ 1 = (Blk.openL h0 c0).length):=by
   intro h0 ps0 c0 t0 y g
   have q:=HGH.out _ _ _ _ _ g
   rw [hg0] at q
   have hc:false = c0:=by rw [← q.2.1]; simp [hdl]
   subst hc
   exact ⟨q.1,rfl,q.2.2⟩
  clear hso hdl hg0 hH
  go_enter Tryz.func78,Tryz.ntmps78
  go_wp2
  have HZ0:=hide (blk_alloc (BlkAt.new w (.string ⟨#[]⟩) (.slice none 0 0) (.bool false) (.bool false)) (.cells #[.string ⟨#[]⟩,.slice none 0 0,.bool false,.bool false] 57))
  have HB0:=hide (BlkAt.new (w.alloc (.cells #[.string ⟨#[]⟩,.slice none 0 0,.bool false,.bool false] 57)) (.string ⟨#[]⟩) (.slice none 0 0) (.bool false) (.bool false))
  have HW0:Hid (Below w.heap.size w ((w.alloc (.cells #[.string ⟨#[]⟩,.slice none 0 0,.bool false,.bool false] 57)).alloc (.cells #[.string ⟨#[]⟩,.slice none 0 0,.bool false,.bool false] 57))):=((Below.refl _ _).alloc (Nat.le_refl _) _).alloc (by simp) _
  have HS0:Hid (GInv kk s (1) []):=GInv.start (fun h0 ps0 c0 t0 y g=>(HG.out _ _ _ _ _ g).2.2)
  simp only [World.size_alloc] at HB0
  go_loopw [5] (fun i wr=>∃ (k:Nat) (l:List ByteArray) (v tv:Value),i = .int .i64 k ∧ Hid (∃ t':Bool,tv = .bool t') ∧ l.length ≤ 5 ∧ k ≤ s.size + 3 ∧ Hid (∀ r ∈ l,r.size ≤ s.size) ∧ Hid (GInv kk s k l) ∧ OwnS wr (w.heap.size + 2) v l ∧ zBlk wr w.heap.size ∧ BlkAt wr (w.heap.size + 1) (.string ⟨#[]⟩) v (.bool false) tv ∧ w.heap.size + 2 ≤ wr.heap.size ∧ Below w.heap.size w wr) (fun _ wr=>6 - partsLen wr (w.heap.size + 1))
  case atStart=>exact ⟨1,[],.slice none 0 0,.bool false,by go_num,⟨false,rfl⟩,by simp,by omega,by simp [Hid],HS0,OwnS.nil _ _,HZ0.out,HB0.out,by simp,HW0.out⟩
  case round =>
   obtain ⟨k,l,v,tv,rfl,HTV,hl5,hk,HL,HF,hS,hz,hB,hsz,hbel⟩:=hrel
   obtain ⟨t',rfl⟩:=HTV.out
   obtain ⟨a,cap,rfl,_⟩:=hS.texts
   have HPL:=hide (partsLen_at hB)
   have f0:=hB.cell0
   have f1:=hB.cell1
   have f2:=hB.cell2
   have f3:=hB.cell3
   by_cases hgo:k < s.size ∧ l.length ≤ 4
   ·have g1:(k:Int) < (s.size:Int):=by omega
    have g2:(l.length:Int) ≤ 4:=by omega
    have hl4:=hgo.2
    clear hgo
    have HS:=hide hS
    have HZ:=hide hz
    have HB:=hide hB
    clear hS hz hB
    go_wp2_with fail
    refine (part_any s k false _ hs (by omega)).mono ?_
    rintro e w1 ⟨r,nx,ok,rfl,HA,hr,hnx,hb1⟩
    have hB1:=HB.out.below hb1 (lt_of_block HB.out)
    have hZ1:=HZ.out.below hb1 (lt_of_block HZ.out)
    have hw1:=below_step hbel hb1
    have hz1:=hb1.size
    cases ok
    ·have e0:=hB1.cell0
     have e1:=hB1.cell1
     have e2:=hB1.cell2
     have e3:=hB1.cell3
     have z0:=hZ1.cell0
     have z1:=hZ1.cell1
     have z2:=hZ1.cell2
     have z3:=hZ1.cell3
     have y0:=blk_free hZ1 0
     have y1:=blk_free hZ1 1
     have y2:=blk_free hZ1 2
     have y3:=blk_free hZ1 3
     have HZ1:=hide hZ1
     have HW1:=hide hw1
     have HS1:=hide (HS.out.below hb1)
     clear hB1 hZ1 hw1 hb1
     go_wp2
     (try simp only [Exit.inBlock,Exit.then])
     refine bodyPost_ret (results_blk rfl _ _ w.heap.size rfl (blk_all HZ1.out)) rfl ?_
     refine ⟨⟨#[]⟩,_,l,false,t',rfl,hh,HL,hl5,((((HS1.out.setCell (by omega)).setCell (by omega)).setCell (by omega)).setCell (by omega)).mono (by omega),?_,((((HW1.out).setCell (by simp) _).setCell (by simp) _).setCell (by simp) _).setCell (by simp) _⟩
     intro h0 ps0 c0 t0 y g
     obtain ⟨_,rfl,_⟩:=HG.out _ _ _ _ _ g
     have:=(HF.out.cut HA.out g).1
     cases this
    ·have hnx:=hnx rfl
     have hgd:=getD_in s nx hnx
     have e1:=hB1.cell1
     have HB1:=hide hB1
     have HZ1:=hide hZ1
     have HW1:=hide hw1
     have HS1:=hide (HS.out.below hb1)
     have hnx':(nx:Int) < (s.size:Int):=by omega
     have HGD:=hide hgd
     clear hB1 hZ1 hw1 hb1 hgd
     have hfin:∀ (a2:Option Addr) (n2 cap2:Nat) (W2:World),Below (w.heap.size + 2) w1 W2 → BlkAt ((W2.setCell ⟨w.heap.size + 1,1,none⟩ (.slice a2 n2 cap2)).setCell ⟨w.heap.size + 1,3,none⟩ (.bool ((s[nx].toNat:Int) == 3))) (w.heap.size + 1) (.string ⟨#[]⟩) (.slice a2 n2 cap2) (.bool false) (.bool ((s[nx].toNat:Int) == 3)) ∧ zBlk ((W2.setCell ⟨w.heap.size + 1,1,none⟩ (.slice a2 n2 cap2)).setCell ⟨w.heap.size + 1,3,none⟩ (.bool ((s[nx].toNat:Int) == 3))) w.heap.size ∧ BlkAt (W2.setCell ⟨w.heap.size + 1,1,none⟩ (.slice a2 n2 cap2)) (w.heap.size + 1) (.string ⟨#[]⟩) (.slice a2 n2 cap2) (.bool false) (.bool t'):=by
      intro a2 n2 cap2 W2 hb
      exact ⟨blk_set3 (blk_set1 (HB1.out.below hb (by omega))),blk_other (blk_other (HZ1.out.below hb (by omega)) (by omega)) (by omega),blk_set1 (HB1.out.below hb (by omega))⟩
     have HFIN:=hide hfin
     clear hfin
     by_cases h31:s[nx].toNat = 31
     ·have d31:((s[nx].toNat:Int) != 31) = false:=by simp [h31]
      have HN:Hid (GInv kk s (nx + 2 + kk.toNat) (l ++ [r])):=HF.out.next HA.out (fun h0 ps0 c0 t0 y g=>(HG.out _ _ _ _ _ g).2.1) (by rw [HGD.out]; exact h31) rfl
      clear h31
      go_wp2_with (first | (at_builtin; refine app_txt _ r rfl (.tmp 74) (.tmp 76) rfl (w.heap.size + 2) _ l _ 1 rfl rfl rfl HS1.out (by omega) w1 (Below.refl _ _) (by omega) ?_; intro v2 W2 hS2 hbel2 hB2; obtain ⟨a2,cap2,rfl,_⟩:=hS2.texts; rw [List.length_append] at hS2; have HS2:=hide hS2; clear hS2; have f4:=(HB1.out.below hbel2 (by omega)).cell1; have f5:=blk_free (HB1.out.below hbel2 (by omega)) 1; have f6:=(HFIN.out a2 (l.length + 1) cap2 W2 hbel2).2.2.cell3; have f7:=blk_free (HFIN.out a2 (l.length + 1) cap2 W2 hbel2).2.2 3))
      go_roundw
      case rel =>
       refine ⟨nx + 2 + kk.toNat,l ++ [r],.slice a2 (l.length + 1) cap2,.bool ((s[nx].toNat:Int) == 3),by go_num,⟨_,rfl⟩,by simp; omega,by omega,mem_snoc_le HL.out hr,HN,(HS2.out.setCell (by omega)).setCell (by omega),(HFIN.out a2 (l.length + 1) cap2 W2 hbel2).2.1,(HFIN.out a2 (l.length + 1) cap2 W2 hbel2).1,by simp; omega,?_⟩
       exact ((HW1.out.trans (hbel2.mono (by omega))).setCell (by simp) _).setCell (by simp) _
      case measure =>
       rw [HPL.out,partsLen_at (HFIN.out a2 (l.length + 1) cap2 W2 hbel2).1]
       omega
     ·have d31:((s[nx].toNat:Int) != 31) = true:=by simp; omega
      have HN:Hid (∀ (h0:List UInt8) (ps0:List (List UInt8)) (t0:Bool) (y:List UInt8),Prs.Good kk s.data.toList h0 ps0 false t0 y → datas (l ++ [r]) = ps0 ∧ decide ((s.data.toList.getD nx 0).toNat = 3) = t0):=fun h0 ps0 t0 y g=>HF.out.last HA.out (by rw [HGD.out]; exact h31) g
      clear h31
      go_wp2_with (first | (at_builtin; refine app_txt _ r rfl (.tmp 74) (.tmp 76) rfl (w.heap.size + 2) _ l _ 1 rfl rfl rfl HS1.out (by omega) w1 (Below.refl _ _) (by omega) ?_; intro v2 W2 hS2 hbel2 hB2; obtain ⟨a2,cap2,rfl,_⟩:=hS2.texts; rw [List.length_append] at hS2; have HS2:=hide hS2; clear hS2; have f4:=(HB1.out.below hbel2 (by omega)).cell1; have f5:=blk_free (HB1.out.below hbel2 (by omega)) 1; have f6:=(HFIN.out a2 (l.length + 1) cap2 W2 hbel2).2.2.cell3; have f7:=blk_free (HFIN.out a2 (l.length + 1) cap2 W2 hbel2).2.2 3; have e0:=(HFIN.out a2 (l.length + 1) cap2 W2 hbel2).1.cell0; have e1:=(HFIN.out a2 (l.length + 1) cap2 W2 hbel2).1.cell1; have e2:=(HFIN.out a2 (l.length + 1) cap2 W2 hbel2).1.cell2; have e3:=(HFIN.out a2 (l.length + 1) cap2 W2 hbel2).1.cell3; have z0:=(HFIN.out a2 (l.length + 1) cap2 W2 hbel2).2.1.cell0; have z1:=(HFIN.out a2 (l.length + 1) cap2 W2 hbel2).2.1.cell1; have z2:=(HFIN.out a2 (l.length + 1) cap2 W2 hbel2).2.1.cell2; have z3:=(HFIN.out a2 (l.length + 1) cap2 W2 hbel2).2.1.cell3; have y0:=blk_free (HFIN.out a2 (l.length + 1) cap2 W2 hbel2).2.1 0; have y1:=blk_free (HFIN.out a2 (l.length + 1) cap2 W2 hbel2).2.1 1; have y2:=blk_free (HFIN.out a2 (l.length + 1) cap2 W2 hbel2).2.1 2; have y3:=blk_free (HFIN.out a2 (l.length + 1) cap2 W2 hbel2).2.1 3))
      (try simp only [Exit.inBlock,Exit.then])
      refine bodyPost_ret (results_blk rfl _ _ w.heap.size rfl (blk_all (HFIN.out a2 (l.length + 1) cap2 W2 hbel2).2.1)) rfl ?_
      refine ⟨⟨#[]⟩,.slice a2 (l.length + 1) cap2,l ++ [r],false,((s[nx].toNat:Int) == 3),rfl,hh,mem_snoc_le HL.out hr,by simp; omega,((((((HS2.out.setCell (by omega)).setCell (by omega)).setCell (by omega)).setCell (by omega)).setCell (by omega)).setCell (by omega)).mono (by omega),?_,?_⟩
      ·intro h0 ps0 c0 t0 y g
       obtain ⟨q1,rfl,_⟩:=HG.out _ _ _ _ _ g
       have q:=HN.out _ _ _ _ g
       refine ⟨q1,q.1,rfl,?_⟩
       rw [← q.2,HGD.out,Bool.eq_iff_iff]
       simp only [decide_eq_true_eq,beq_iff_eq]
       omega
      ·exact ((((((HW1.out.trans (hbel2.mono (by omega))).setCell (by simp) _).setCell (by simp) _).setCell (by simp) _).setCell (by simp) _).setCell (by simp) _).setCell (by simp) _
   ·have HS:=hide hS
    have z0:=hz.cell0
    have z1:=hz.cell1
    have z2:=hz.cell2
    have z3:=hz.cell3
    have y0:=blk_free hz 0
    have y1:=blk_free hz 1
    have y2:=blk_free hz 2
    have y3:=blk_free hz 3
    have HZ:=hide hz
    have HNG:Hid (¬ (k < s.size ∧ l.length ≤ 4)):=hgo
    clear hS hz hB
    by_cases g1:(k:Int) < (s.size:Int)
    ·have g2:¬ (l.length:Int) ≤ 4:=by omega
     clear hgo
     go_wp2
     (try simp only [Exit.inBlock,Exit.then])
     refine bodyPost_ret (results_blk rfl _ _ w.heap.size rfl (blk_all HZ.out)) rfl ?_
     refine ⟨⟨#[]⟩,_,l,false,t',rfl,hh,HL,hl5,((((HS.out.setCell (by omega)).setCell (by omega)).setCell (by omega)).setCell (by omega)).mono (by omega),?_,(((hbel.setCell (by simp) _).setCell (by simp) _).setCell (by simp) _).setCell (by simp) _⟩
     intro h0 ps0 c0 t0 y g
     exact absurd (HF.out.inside g) HNG.out
    ·clear hgo
     go_wp2
     (try simp only [Exit.inBlock,Exit.then])
     refine bodyPost_ret (results_blk rfl _ _ w.heap.size rfl (blk_all HZ.out)) rfl ?_
     refine ⟨⟨#[]⟩,_,l,false,t',rfl,hh,HL,hl5,((((HS.out.setCell (by omega)).setCell (by omega)).setCell (by omega)).setCell (by omega)).mono (by omega),?_,(((hbel.setCell (by simp) _).setCell (by simp) _).setCell (by simp) _).setCell (by simp) _⟩
     intro h0 ps0 c0 t0 y g
     exact absurd (HF.out.inside g) HNG.out
end Go.Proofs.YtlbpjcphhocdkaaGreat
