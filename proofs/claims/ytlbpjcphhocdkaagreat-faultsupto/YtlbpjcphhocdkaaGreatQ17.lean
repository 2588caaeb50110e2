/- The document's functions beneath Read: the block that is guessed, where a head stands. -/
import Derived.Test.YtlbpjcphhocdkaaGreatQ16
set_option maxRecDepth 1000000
set_option maxHeartbeats 16000000
namespace Go.Proofs.YtlbpjcphhocdkaaGreat
open Go.RowKit
theorem guess_yes (s:ByteArray) (kk:Int) (w:World) (hs:s.size ≤ 140737488352000) (h1:1 ≤ s.size) (hkk:kk = 0 ∨ kk = 1) (hso:s[0].toNat = 1) :
  Calls Tryz.prog 78 #[.string s,.int .i64 kk] w fun e w'=>FoundAns kk s w e w':=by
 have HK:=hide hkk
 have hk1:0 ≤ kk ∧ kk ≤ 1:=by omega
 clear hkk
 have h0':(0:Int) < (s.size:Int):=by omega
 have d0:((s[0].toNat:Int) == 1) = true:=by simp [hso]
 have hg0:=getD_in s 0 (by omega)
 have HH:Hid (Prs.headP refF s.data.toList = (s.data.toList.drop 1).takeWhile refF):=by unfold Hid Prs.headP; rw [hg0,if_pos hso]
 have HG0:Hid ((s.data.toList.getD 0 0).toNat = 1):=by rw [Hid,hg0]; exact hso
 clear hso hg0
 go_enter Tryz.func78,Tryz.ntmps78
 go_wp2
 go_loop [5] (fun i=>∃ j:Nat,1 ≤ j ∧ j ≤ s.size ∧ i = .int .i64 j ∧ Hid ((s.data.toList.drop 1).takeWhile refF = (s.data.toList.drop 1).take (j - 1) ++ (s.data.toList.drop j).takeWhile refF)) (fun i=>s.size - (intOf i).toNat)
 case atStart=>exact ⟨1,by omega,by omega,rfl,by simp [Hid]⟩
 case round =>
  obtain ⟨j,hj1,hj,rfl,HJ⟩:=hrel
  have HI:=hide (is_cut s 1 j)
  have hh:(s.extract 1 j).size ≤ s.size:=by rw [HI.out.size]; simp; omega
  by_cases hlt:j < s.size
  ·have hlt':(j:Int) < (s.size:Int):=by omega
   have hgj:=getD_in s j hlt
   by_cases h2:s[j].toNat = 2
   ·have d2:((s[j].toNat:Int) != 2) = false:=by simp [h2]
    have d16:((s[j].toNat:Int) == 16) = false:=by simp; omega
    have HT:=hide (tw_stop refF s j hlt (by simp [refF,h2]))
    have HGJ:Hid (¬ (s.data.toList.getD j 0).toNat = 16):=by rw [Hid,hgj]; omega
    clear h2 hgj
    have HHD:Hid (Prs.headP refF s.data.toList = (s.extract 1 j).data.toList):=by rw [Hid,HH.out,HJ.out,HT.out,List.append_nil,HI.out.data]
    have HLN:Hid (j = 1 + (s.extract 1 j).data.toList.length):=by rw [Hid,HI.out.data]; simp; omega
    generalize hhe:s.extract 1 j = h at *
    have HHE:=hide hhe
    clear hhe
    have HG:Hid (∀ h0 ps0 c0 t0 y,Prs.Good kk s.data.toList h0 ps0 c0 t0 y → h.data.toList = h0 ∧ false = c0 ∧ j + 1 = (Blk.openL h0 c0).length):=by
     intro h0 ps0 c0 t0 y g
     have q:=guess_head (k:=j) HHD.out (fun _=>HLN.out) (fun h=>absurd HG0.out h) g
     have hc:false = c0:=by rw [← q.2.1]; exact (decide_eq_false HGJ.out).symm
     subst hc
     exact ⟨q.1,rfl,q.2.2⟩
    go_wp2
    rw [HHE.out]
    have HZ0:=hide (blk_alloc (BlkAt.new w (.string ⟨#[]⟩) (.slice none 0 0) (.bool false) (.bool false)) (.cells #[.string h,.slice none 0 0,.bool false,.bool false] 57))
    have HB0:=hide (BlkAt.new (w.alloc (.cells #[.string ⟨#[]⟩,.slice none 0 0,.bool false,.bool false] 57)) (.string h) (.slice none 0 0) (.bool false) (.bool false))
    have HW0:Hid (Below w.heap.size w ((w.alloc (.cells #[.string ⟨#[]⟩,.slice none 0 0,.bool false,.bool false] 57)).alloc (.cells #[.string h,.slice none 0 0,.bool false,.bool false] 57))):=((Below.refl _ _).alloc (Nat.le_refl _) _).alloc (by simp) _
    have HS0:Hid (GInv kk s (j + 1) []):=GInv.start (fun h0 ps0 c0 t0 y g=>(HG.out _ _ _ _ _ g).2.2)
    simp only [World.size_alloc] at HB0
    go_loopw [5] (fun i wr=>∃ (k:Nat) (l:List ByteArray) (v tv:Value),i = .int .i64 k ∧ Hid (∃ t':Bool,tv = .bool t') ∧ l.length ≤ 5 ∧ k ≤ s.size + 3 ∧ Hid (∀ r ∈ l,r.size ≤ s.size) ∧ Hid (GInv kk s k l) ∧ OwnS wr (w.heap.size + 2) v l ∧ zBlk wr w.heap.size ∧ BlkAt wr (w.heap.size + 1) (.string h) v (.bool false) tv ∧ w.heap.size + 2 ≤ wr.heap.size ∧ Below w.heap.size w wr) (fun _ wr=>6 - partsLen wr (w.heap.size + 1))
    case atStart=>exact ⟨j + 1,[],.slice none 0 0,.bool false,by go_num,⟨false,rfl⟩,by simp,by omega,by simp [Hid],HS0,OwnS.nil _ _,HZ0.out,HB0.out,by simp,HW0.out⟩
    case round =>
     obtain ⟨k,l,v,tv,rfl,HTV,hl5,hk,HL,HF,hS,hz,hB,hsz,hbel⟩:=hrel
     obtain ⟨t',rfl⟩:=HTV.out
     obtain ⟨a,cap,rfl,_⟩:=hS.texts
     have HPL:=hide (partsLen_at hB)
     have f0:=hB.cell0
     have f1:=hB.cell1
     have f2:=hB.cell2
     have f3:=hB.cell3
     by_cases hgo:k < s.size ∧ l.length ≤ 4
     ·have g1:(k:Int) < (s.size:Int):=by omega
      have g2:(l.length:Int) ≤ 4:=by omega
      have hl4:=hgo.2
      clear hgo
      have HS:=hide hS
      have HZ:=hide hz
      have HB:=hide hB
      clear hS hz hB
      go_wp2_with fail
      refine (part_any s k false _ hs (by omega)).mono ?_
      rintro e w1 ⟨r,nx,ok,rfl,HA,hr,hnx,hb1⟩
      have hB1:=HB.out.below hb1 (lt_of_block HB.out)
      have hZ1:=HZ.out.below hb1 (lt_of_block HZ.out)
      have hw1:=below_step hbel hb1
      have hz1:=hb1.size
      cases ok
      ·have e0:=hB1.cell0
       have e1:=hB1.cell1
       have e2:=hB1.cell2
       have e3:=hB1.cell3
       have z0:=hZ1.cell0
       have z1:=hZ1.cell1
       have z2:=hZ1.cell2
       have z3:=hZ1.cell3
       have y0:=blk_free hZ1 0
       have y1:=blk_free hZ1 1
       have y2:=blk_free hZ1 2
       have y3:=blk_free hZ1 3
       have HZ1:=hide hZ1
       have HW1:=hide hw1
       have HS1:=hide (HS.out.below hb1)
       clear hB1 hZ1 hw1 hb1
       go_wp2
       (try simp only [Exit.inBlock,Exit.then])
       refine bodyPost_ret (results_blk rfl _ _ w.heap.size rfl (blk_all HZ1.out)) rfl ?_
       refine ⟨h,_,l,false,t',rfl,hh,HL,hl5,((((HS1.out.setCell (by omega)).setCell (by omega)).setCell (by omega)).setCell (by omega)).mono (by omega),?_,((((HW1.out).setCell (by simp) _).setCell (by simp) _).setCell (by simp) _).setCell (by simp) _⟩
       intro h0 ps0 c0 t0 y g
       obtain ⟨_,rfl,_⟩:=HG.out _ _ _ _ _ g
       have:=(HF.out.cut HA.out g).1
       cases this
      ·have hnx:=hnx rfl
       have hgd:=getD_in s nx hnx
       have e1:=hB1.cell1
       have HB1:=hide hB1
       have HZ1:=hide hZ1
       have HW1:=hide hw1
       have HS1:=hide (HS.out.below hb1)
       have hnx':(nx:Int) < (s.size:Int):=by omega
       have HGD:=hide hgd
       clear hB1 hZ1 hw1 hb1 hgd
       have hfin:∀ (a2:Option Addr) (n2 cap2:Nat) (W2:World),Below (w.heap.size + 2) w1 W2 → BlkAt ((W2.setCell ⟨w.heap.size + 1,1,none⟩ (.slice a2 n2 cap2)).setCell ⟨w.heap.size + 1,3,none⟩ (.bool ((s[nx].toNat:Int) == 3))) (w.heap.size + 1) (.string h) (.slice a2 n2 cap2) (.bool false) (.bool ((s[nx].toNat:Int) == 3)) ∧ zBlk ((W2.setCell ⟨w.heap.size + 1,1,none⟩ (.slice a2 n2 cap2)).setCell ⟨w.heap.size + 1,3,none⟩ (.bool ((s[nx].toNat:Int) == 3))) w.heap.size ∧ BlkAt (W2.setCell ⟨w.heap.size + 1,1,none⟩ (.slice a2 n2 cap2)) (w.heap.size + 1) (.string h) (.slice a2 n2 cap2) (.bool false) (.bool t'):=by
        intro a2 n2 cap2 W2 hb
        exact ⟨blk_set3 (blk_set1 (HB1.out.below hb (by omega))),blk_other (blk_other (HZ1.out.below hb (by omega)) (by omega)) (by omega),blk_set1 (HB1.out.below hb (by omega))⟩
       have HFIN:=hide hfin
       clear hfin
       by_cases h31:s[nx].toNat = 31
       ·have d31:((s[nx].toNat:Int) != 31) = false:=by simp [h31]
        have HN:Hid (GInv kk s (nx + 2 + kk.toNat) (l ++ [r])):=HF.out.next HA.out (fun h0 ps0 c0 t0 y g=>(HG.out _ _ _ _ _ g).2.1) (by rw [HGD.out]; exact h31) rfl
        clear h31
        go_wp2_with (first | (at_builtin; refine app_txt _ r rfl (.tmp 74) (.tmp 76) rfl (w.heap.size + 2) _ l _ 1 rfl rfl rfl HS1.out (by omega) w1 (Below.refl _ _) (by omega) ?_; intro v2 W2 hS2 hbel2 hB2; obtain ⟨a2,cap2,rfl,_⟩:=hS2.texts; rw [List.length_append] at hS2; have HS2:=hide hS2; clear hS2; have f4:=(HB1.out.below hbel2 (by omega)).cell1; have f5:=blk_free (HB1.out.below hbel2 (by omega)) 1; have f6:=(HFIN.out a2 (l.length + 1) cap2 W2 hbel2).2.2.cell3; have f7:=blk_free (HFIN.out a2 (l.length + 1) cap2 W2 hbel2).2.2 3))
        go_roundw
        case rel =>
         refine ⟨nx + 2 + kk.toNat,l ++ [r],.slice a2 (l.length + 1) cap2,.bool ((s[nx].toNat:Int) == 3),by go_num,⟨_,rfl⟩,by simp; omega,by omega,mem_snoc_le HL.out hr,HN,(HS2.out.setCell (by omega)).setCell (by omega),(HFIN.out a2 (l.length + 1) cap2 W2 hbel2).2.1,(HFIN.out a2 (l.length + 1) cap2 W2 hbel2).1,by simp; omega,?_⟩
         exact ((HW1.out.trans (hbel2.mono (by omega))).setCell (by simp) _).setCell (by simp) _
        case measure =>
         rw [HPL.out,partsLen_at (HFIN.out a2 (l.length + 1) cap2 W2 hbel2).1]
         omega
       ·have d31:((s[nx].toNat:Int) != 31) = true:=by simp; omega
        have HN:Hid (∀ (h0:List UInt8) (ps0:List (List UInt8)) (t0:Bool) (y:List UInt8),Prs.Good kk s.data.toList h0 ps0 false t0 y → datas (l ++ [r]) = ps0 ∧ decide ((s.data.toList.getD nx 0).toNat = 3) = t0):=fun h0 ps0 t0 y g=>HF.out.last HA.out (by rw [HGD.out]; exact h31) g
        clear h31
        go_wp2_with (first | (at_builtin; refine app_txt _ r rfl (.tmp 74) (.tmp 76) rfl (w.heap.size + 2) _ l _ 1 rfl rfl rfl HS1.out (by omega) w1 (Below.refl _ _) (by omega) ?_; intro v2 W2 hS2 hbel2 hB2; obtain ⟨a2,cap2,rfl,_⟩:=hS2.texts; rw [List.length_append] at hS2; have HS2:=hide hS2; clear hS2; have f4:=(HB1.out.below hbel2 (by omega)).cell1; have f5:=blk_free (HB1.out.below hbel2 (by omega)) 1; have f6:=(HFIN.out a2 (l.length + 1) cap2 W2 hbel2).2.2.cell3; have f7:=blk_free (HFIN.out a2 (l.length + 1) cap2 W2 hbel2).2.2 3; have e0:=(HFIN.out a2 (l.length + 1) cap2 W2 hbel2).1.cell0; have e1:=(HFIN.out a2 (l.length + 1) cap2 W2 hbel2).1.cell1; have e2:=(HFIN.out a2 (l.length + 1) cap2 W2 hbel2).1.cell2; have e3:=(HFIN.out a2 (l.length + 1) cap2 W2 hbel2).1.cell3; have z0:=(HFIN.out a2 (l.length + 1) cap2 W2 hbel2).2.1.cell0; have z1:=(HFIN.out a2 (l.length + 1) cap2 W2 hbel2).2.1.cell1; have z2:=(HFIN.out a2 (l.length + 1) cap2 W2 hbel2).2.1.cell2; have z3:=(HFIN.out a2 (l.length + 1) cap2 W2 hbel2).2.1.cell3; have y0:=blk_free (HFIN.out a2 (l.length + 1) cap2 W2 hbel2).2.1 0; have y1:=blk_free (HFIN.out a2 (l.length + 1) cap2 W2 hbel2).2.1 1; have y2:=blk_free (HFIN.out a2 (l.length + 1) cap2 W2 hbel2).2.1 2; have y3:=blk_free (HFIN.out a2 (l.length + 1) cap2 W2 hbel2).2.1 3))
        (try simp only [Exit.inBlock,Exit.then])
        refine bodyPost_ret (results_blk rfl _ _ w.heap.size rfl (blk_all (HFIN.out a2 (l.length + 1) cap2 W2 hbel2).2.1)) rfl ?_
        refine ⟨h,.slice a2 (l.length + 1) cap2,l ++ [r],false,((s[nx].toNat:Int) == 3),rfl,hh,mem_snoc_le HL.out hr,by simp; omega,((((((HS2.out.setCell (by omega)).setCell (by omega)).setCell (by omega)).setCell (by omega)).setCell (by omega)).setCell (by omega)).mono (by omega),?_,?_⟩
        ·intro h0 ps0 c0 t0 y g
         obtain ⟨q1,rfl,_⟩:=HG.out _ _ _ _ _ g
         have q:=HN.out _ _ _ _ g
         refine ⟨q1,q.1,rfl,?_⟩
         rw [← q.2,HGD.out,Bool.eq_iff_iff]
         simp only [decide_eq_true_eq,beq_iff_eq]
         omega
        ·exact ((((((HW1.out.trans (hbel2.mono (by omega))).setCell (by simp) _).setCell (by simp) _).setCell (by simp) _).setCell (by simp) _).setCell (by simp) _).setCell (by simp) _
     ·have HS:=hide hS
      have z0:=hz.cell0
      have z1:=hz.cell1
      have z2:=hz.cell2
      have z3:=hz.cell3
      have y0:=blk_free hz 0
      have y1:=blk_free hz 1
      have y2:=blk_free hz 2
      have y3:=blk_free hz 3
      have HZ:=hide hz
      have HNG:Hid (¬ (k < s.size ∧ l.length ≤ 4)):=hgo
      clear hS hz hB
      by_cases g1:(k:Int) < (s.size:Int)
      ·have g2:¬ (l.length:Int) ≤ 4:=by omega
       clear hgo
       go_wp2
       (try simp only [Exit.inBlock,Exit.then])
       refine bodyPost_ret (results_blk rfl _ _ w.heap.size rfl (blk_all HZ.out)) rfl ?_
       refine ⟨h,_,l,false,t',rfl,hh,HL,hl5,((((HS.out.setCell (by omega)).setCell (by omega)).setCell (by omega)).setCell (by omega)).mono (by omega),?_,(((hbel.setCell (by simp) _).setCell (by simp) _).setCell (by simp) _).setCell (by simp) _⟩
       intro h0 ps0 c0 t0 y g
       exact absurd (HF.out.inside g) HNG.out
      ·clear hgo
       go_wp2
       (try simp only [Exit.inBlock,Exit.then])
       refine bodyPost_ret (results_blk rfl _ _ w.heap.size rfl (blk_all HZ.out)) rfl ?_
       refine ⟨h,_,l,false,t',rfl,hh,HL,hl5,((((HS.out.setCell (by omega)).setCell (by omega)).setCell (by omega)).setCell (by omega)).mono (by omega),?_,(((hbel.setCell (by simp) _).setCell (by simp) _).setCell (by simp) _).setCell (by simp) _⟩
       intro h0 ps0 c0 t0 y g
       exact absurd (HF.out.inside g) HNG.out
   ·have d2:((s[j].toNat:Int) != 2) = true:=by simp; omega
    by_cases h16:s[j].toNat = 16
    ·have d3:((s[j].toNat:Int) != 16) = false:=by simp [h16]
     have d16:((s[j].toNat:Int) == 16) = true:=by simp [h16]
     have HT:=hide (tw_stop refF s j hlt (by simp [refF,h16]))
     have HGJ:Hid ((s.data.toList.getD j 0).toNat = 16):=by rw [Hid,hgj]; exact h16
     clear h2 h16 hgj
     have HHD:Hid (Prs.headP refF s.data.toList = (s.extract 1 j).data.toList):=by rw [Hid,HH.out,HJ.out,HT.out,List.append_nil,HI.out.data]
     have HLN:Hid (j = 1 + (s.extract 1 j).data.toList.length):=by rw [Hid,HI.out.data]; simp; omega
     generalize hhe:s.extract 1 j = h at *
     have HHE:=hide hhe
     clear hhe
     have HG:Hid (∀ h0 ps0 c0 t0 y,Prs.Good kk s.data.toList h0 ps0 c0 t0 y → h.data.toList = h0 ∧ true = c0 ∧ j + 1 + 1 = (Blk.openL h0 c0).length):=by
      intro h0 ps0 c0 t0 y g
      have q:=guess_head (k:=j) HHD.out (fun _=>HLN.out) (fun h=>absurd HG0.out h) g
      have hc:true = c0:=by rw [← q.2.1]; exact (decide_eq_true HGJ.out).symm
      subst hc
      exact ⟨q.1,rfl,q.2.2⟩
     go_wp2
     rw [HHE.out]
     have HZ0:=hide (blk_alloc (BlkAt.new w (.string ⟨#[]⟩) (.slice none 0 0) (.bool false) (.bool false)) (.cells #[.string h,.slice none 0 0,.bool true,.bool false] 57))
     have HB0:=hide (BlkAt.new (w.alloc (.cells #[.string ⟨#[]⟩,.slice none 0 0,.bool false,.bool false] 57)) (.string h) (.slice none 0 0) (.bool true) (.bool false))
     have HW0:Hid (Below w.heap.size w ((w.alloc (.cells #[.string ⟨#[]⟩,.slice none 0 0,.bool false,.bool false] 57)).alloc (.cells #[.string h,.slice none 0 0,.bool true,.bool false] 57))):=((Below.refl _ _).alloc (Nat.le_refl _) _).alloc (by simp) _
     have HS0:Hid (GInv kk s (j + 1 + 1) []):=GInv.start (fun h0 ps0 c0 t0 y g=>(HG.out _ _ _ _ _ g).2.2)
     simp only [World.size_alloc] at HB0
     go_loopw [5] (fun i wr=>∃ (k:Nat) (l:List ByteArray) (v tv:Value),i = .int .i64 k ∧ Hid (∃ t':Bool,tv = .bool t') ∧ l.length ≤ 5 ∧ k ≤ s.size + 3 ∧ Hid (∀ r ∈ l,r.size ≤ s.size) ∧ Hid (GInv kk s k l) ∧ OwnS wr (w.heap.size + 2) v l ∧ zBlk wr w.heap.size ∧ BlkAt wr (w.heap.size + 1) (.string h) v (.bool true) tv ∧ w.heap.size + 2 ≤ wr.heap.size ∧ Below w.heap.size w wr) (fun _ wr=>6 - partsLen wr (w.heap.size + 1))
     case atStart=>exact ⟨j + 1 + 1,[],.slice none 0 0,.bool false,by go_num,⟨false,rfl⟩,by simp,by omega,by simp [Hid],HS0,OwnS.nil _ _,HZ0.out,HB0.out,by simp,HW0.out⟩
     case round =>
      obtain ⟨k,l,v,tv,rfl,HTV,hl5,hk,HL,HF,hS,hz,hB,hsz,hbel⟩:=hrel
      obtain ⟨t',rfl⟩:=HTV.out
      obtain ⟨a,cap,rfl,_⟩:=hS.texts
      have HPL:=hide (partsLen_at hB)
      have f0:=hB.cell0
      have f1:=hB.cell1
      have f2:=hB.cell2
      have f3:=hB.cell3
      by_cases hgo:k < s.size ∧ l.length ≤ 4
      ·have g1:(k:Int) < (s.size:Int):=by omega
       have g2:(l.length:Int) ≤ 4:=by omega
       have hl4:=hgo.2
       clear hgo
       have HS:=hide hS
       have HZ:=hide hz
       have HB:=hide hB
       clear hS hz hB
       go_wp2_with fail
       refine (part_any s k true _ hs (by omega)).mono ?_
       rintro e w1 ⟨r,nx,ok,rfl,HA,hr,hnx,hb1⟩
       have hB1:=HB.out.below hb1 (lt_of_block HB.out)
       have hZ1:=HZ.out.below hb1 (lt_of_block HZ.out)
       have hw1:=below_step hbel hb1
       have hz1:=hb1.size
       cases ok
       ·have e0:=hB1.cell0
        have e1:=hB1.cell1
        have e2:=hB1.cell2
        have e3:=hB1.cell3
        have z0:=hZ1.cell0
        have z1:=hZ1.cell1
        have z2:=hZ1.cell2
        have z3:=hZ1.cell3
        have y0:=blk_free hZ1 0
        have y1:=blk_free hZ1 1
        have y2:=blk_free hZ1 2
        have y3:=blk_free hZ1 3
        have HZ1:=hide hZ1
        have HW1:=hide hw1
        have HS1:=hide (HS.out.below hb1)
        clear hB1 hZ1 hw1 hb1
        go_wp2
        (try simp only [Exit.inBlock,Exit.then])
        refine bodyPost_ret (results_blk rfl _ _ w.heap.size rfl (blk_all HZ1.out)) rfl ?_
        refine ⟨h,_,l,true,t',rfl,hh,HL,hl5,((((HS1.out.setCell (by omega)).setCell (by omega)).setCell (by omega)).setCell (by omega)).mono (by omega),?_,((((HW1.out).setCell (by simp) _).setCell (by simp) _).setCell (by simp) _).setCell (by simp) _⟩
        intro h0 ps0 c0 t0 y g
        obtain ⟨_,rfl,_⟩:=HG.out _ _ _ _ _ g
        have:=(HF.out.cut HA.out g).1
        cases this
       ·have hnx:=hnx rfl
        have hgd:=getD_in s nx hnx
        have e1:=hB1.cell1
        have HB1:=hide hB1
        have HZ1:=hide hZ1
        have HW1:=hide hw1
        have HS1:=hide (HS.out.below hb1)
        have hnx':(nx:Int) < (s.size:Int):=by omega
        have HGD:=hide hgd
        clear hB1 hZ1 hw1 hb1 hgd
        have hfin:∀ (a2:Option Addr) (n2 cap2:Nat) (W2:World),Below (w.heap.size + 2) w1 W2 → BlkAt ((W2.setCell ⟨w.heap.size + 1,1,none⟩ (.slice a2 n2 cap2)).setCell ⟨w.heap.size + 1,3,none⟩ (.bool ((s[nx].toNat:Int) == 3))) (w.heap.size + 1) (.string h) (.slice a2 n2 cap2) (.bool true) (.bool ((s[nx].toNat:Int) == 3)) ∧ zBlk ((W2.setCell ⟨w.heap.size + 1,1,none⟩ (.slice a2 n2 cap2)).setCell ⟨w.heap.size + 1,3,none⟩ (.bool ((s[nx].toNat:Int) == 3))) w.heap.size ∧ BlkAt (W2.setCell ⟨w.heap.size + 1,1,none⟩ (.slice a2 n2 cap2)) (w.heap.size + 1) (.string h) (.slice a2 n2 cap2) (.bool true) (.bool t'):=by
         intro a2 n2 cap2 W2 hb
         exact ⟨blk_set3 (blk_set1 (HB1.out.below hb (by omega))),blk_other (blk_other (HZ1.out.below hb (by omega)) (by omega)) (by omega),blk_set1 (HB1.out.below hb (by omega))⟩
        have HFIN:=hide hfin
        clear hfin
        by_cases h31:s[nx].toNat = 31
        ·have d31:((s[nx].toNat:Int) != 31) = false:=by simp [h31]
         have HN:Hid (GInv kk s (nx + 2 + kk.toNat) (l ++ [r])):=HF.out.next HA.out (fun h0 ps0 c0 t0 y g=>(HG.out _ _ _ _ _ g).2.1) (by rw [HGD.out]; exact h31) rfl
         clear h31
         go_wp2_with (first | (at_builtin; refine app_txt _ r rfl (.tmp 74) (.tmp 76) rfl (w.heap.size + 2) _ l _ 1 rfl rfl rfl HS1.out (by omega) w1 (Below.refl _ _) (by omega) ?_; intro v2 W2 hS2 hbel2 hB2; obtain ⟨a2,cap2,rfl,_⟩:=hS2.texts; rw [List.length_append] at hS2; have HS2:=hide hS2; clear hS2; have f4:=(HB1.out.below hbel2 (by omega)).cell1; have f5:=blk_free (HB1.out.below hbel2 (by omega)) 1; have f6:=(HFIN.out a2 (l.length + 1) cap2 W2 hbel2).2.2.cell3; have f7:=blk_free (HFIN.out a2 (l.length + 1) cap2 W2 hbel2).2.2 3))
         go_roundw
         case rel =>
          refine ⟨nx + 2 + kk.toNat,l ++ [r],.slice a2 (l.length + 1) cap2,.bool ((s[nx].toNat:Int) == 3),by go_num,⟨_,rfl⟩,by simp; omega,by omega,mem_snoc_le HL.out hr,HN,(HS2.out.setCell (by omega)).setCell (by omega),(HFIN.out a2 (l.length + 1) cap2 W2 hbel2).2.1,(HFIN.out a2 (l.length + 1) cap2 W2 hbel2).1,by simp; omega,?_⟩
          exact ((HW1.out.trans (hbel2.mono (by omega))).setCell (by simp) _).setCell (by simp) _
         case measure =>
          rw [HPL.out,partsLen_at (HFIN.out a2 (l.length + 1) cap2 W2 hbel2).1]
          omega
        ·have d31:((s[nx].toNat:Int) != 31) = true:=by simp; omega
         have HN:Hid (∀ (h0:List UInt8) (ps0:List (List UInt8)) (t0:Bool) (y:List UInt8),Prs.Good kk s.data.toList h0 ps0 true t0 y → datas (l ++ [r]) = ps0 ∧ decide ((s.data.toList.getD nx 0).toNat = 3) = t0):=fun h0 ps0 t0 y g=>HF.out.last HA.out (by rw [HGD.out]; exact h31) g
         clear h31
         go_wp2_with (first | (at_builtin; refine app_txt _ r rfl (.tmp 74) (.tmp 76) rfl (w.heap.size + 2) _ l _ 1 rfl rfl rfl HS1.out (by omega) w1 (Below.refl _ _) (by omega) ?_; intro v2 W2 hS2 hbel2 hB2; obtain ⟨a2,cap2,rfl,_⟩:=hS2.texts; rw [List.length_append] at hS2; have HS2:=hide hS2; clear hS2; have f4:=(HB1.out.below hbel2 (by omega)).cell1; have f5:=blk_free (HB1.out.below hbel2 (by omega)) 1; have f6:=(HFIN.out a2 (l.length + 1) cap2 W2 hbel2).2.2.cell3; have f7:=blk_free (HFIN.out a2 (l.length + 1) cap2 W2 hbel2).2.2 3; have e0:=(HFIN.out a2 (l.length + 1) cap2 W2 hbel2).1.cell0; have e1:=(HFIN.out a2 (l.length + 1) cap2 W2 hbel2).1.cell1; have e2:=(HFIN.out a2 (l.length + 1) cap2 W2 hbel2).1.cell2; have e3:=(HFIN.out a2 (l.length + 1) cap2 W2 hbel2).1.cell3; have z0:=(HFIN.out a2 (l.length + 1) cap2 W2 hbel2).2.1.cell0; have z1:=(HFIN.out a2 (l.length + 1) cap2 W2 hbel2).2.1.cell1; have z2:=(HFIN.out a2 (l.length + 1) cap2 W2 hbel2).2.1.cell2; have z3:=(HFIN.out a2 (l.length + 1) cap2 W2 hbel2).2.1.cell3; have y0:=blk_free (HFIN.out a2 (l.length + 1) cap2 W2 hbel2).2.1 0; have y1:=blk_free (HFIN.out a2 (l.length + 1) cap2 W2 hbel2).2.1 1; have y2:=blk_free (HFIN.out a2 (l.length + 1) cap2 W2 hbel2).2.1 2; have y3:=blk_free (HFIN.out a2 (l.length + 1) cap2 W2 hbel2).2.1 3))
         (try simp only [Exit.inBlock,Exit.then])
         refine bodyPost_ret (results_blk rfl _ _ w.heap.size rfl (blk_all (HFIN.out a2 (l.length + 1) cap2 W2 hbel2).2.1)) rfl ?_
         refine ⟨h,.slice a2 (l.length + 1) cap2,l ++ [r],true,((s[nx].toNat:Int) == 3),rfl,hh,mem_snoc_le HL.out hr,by simp; omega,((((((HS2.out.setCell (by omega)).setCell (by omega)).setCell (by omega)).setCell (by omega)).setCell (by omega)).setCell (by omega)).mono (by omega),?_,?_⟩
         ·intro h0 ps0 c0 t0 y g
          obtain ⟨q1,rfl,_⟩:=HG.out _ _ _ _ _ g
          have q:=HN.out _ _ _ _ g
          refine ⟨q1,q.1,rfl,?_⟩
          rw [← q.2,HGD.out,Bool.eq_iff_iff]
          simp only [decide_eq_true_eq,beq_iff_eq]
          omega
         ·exact ((((((HW1.out.trans (hbel2.mono (by omega))).setCell (by simp) _).setCell (by simp) _).setCell (by simp) _).setCell (by simp) _).setCell (by simp) _).setCell (by simp) _
      ·have HS:=hide hS
       have z0:=hz.cell0
       have z1:=hz.cell1
       have z2:=hz.cell2
       have z3:=hz.cell3
       have y0:=blk_free hz 0
       have y1:=blk_free hz 1
       have y2:=blk_free hz 2
       have y3:=blk_free hz 3
       have HZ:=hide hz
       have HNG:Hid (¬ (k < s.size ∧ l.length ≤ 4)):=hgo
       clear hS hz hB
       by_cases g1:(k:Int) < (s.size:Int)
       ·have g2:¬ (l.length:Int) ≤ 4:=by omega
        clear hgo
        go_wp2
        (try simp only [Exit.inBlock,Exit.then])
        refine bodyPost_ret (results_blk rfl _ _ w.heap.size rfl (blk_all HZ.out)) rfl ?_
        refine ⟨h,_,l,true,t',rfl,hh,HL,hl5,((((HS.out.setCell (by omega)).setCell (by omega)).setCell (by omega)).setCell (by omega)).mono (by omega),?_,(((hbel.setCell (by simp) _).setCell (by simp) _).setCell (by simp) _).setCell (by simp) _⟩
        intro h0 ps0 c0 t0 y g
        exact absurd (HF.out.inside g) HNG.out
       ·clear hgo
        go_wp2
        (try simp only [Exit.inBlock,Exit.then])
        refine bodyPost_ret (results_blk rfl _ _ w.heap.size rfl (blk_all HZ.out)) rfl ?_
        refine ⟨h,_,l,true,t',rfl,hh,HL,hl5,((((HS.out.setCell (by omega)).setCell (by omega)).setCell (by omega)).setCell (by omega)).mono (by omega),?_,(((hbel.setCell (by simp) _).setCell (by simp) _).setCell (by simp) _).setCell (by simp) _⟩
        intro h0 ps0 c0 t0 y g
        exact absurd (HF.out.inside g) HNG.out
    ·have d3:((s[j].toNat:Int) != 16) = true:=by simp; omega
     have HT:=hide (tw_step refF s j hlt (by simp [refF,h2,h16]))
     have HS:=hide (cut_snoc s 1 j hj1 hlt)
     clear h2 h16 hgj
     go_wp2
     go_round
     case rel=>exact ⟨j + 1,by omega,by omega,by go_num,by rw [Hid,HJ.out,HS.out,HT.out,List.append_assoc]; rfl⟩
     case measure=>simp [intOf]; omega
  ·have hlt':¬ (j:Int) < (s.size:Int):=by omega
   have HT:=hide (tw_end refF s j (by omega))
   have HGJ:Hid (¬ (s.data.toList.getD j 0).toNat = 16):=by rw [Hid,getD_out s j hlt]; decide
   have HHD:Hid (Prs.headP refF s.data.toList = (s.extract 1 j).data.toList):=by rw [Hid,HH.out,HJ.out,HT.out,List.append_nil,HI.out.data]
   have HLN:Hid (j = 1 + (s.extract 1 j).data.toList.length):=by rw [Hid,HI.out.data]; simp; omega
   generalize hhe:s.extract 1 j = h at *
   have HHE:=hide hhe
   clear hhe
   have HG:Hid (∀ h0 ps0 c0 t0 y,Prs.Good kk s.data.toList h0 ps0 c0 t0 y → h.data.toList = h0 ∧ false = c0 ∧ j + 1 = (Blk.openL h0 c0).length):=by
    intro h0 ps0 c0 t0 y g
    have q:=guess_head (k:=j) HHD.out (fun _=>HLN.out) (fun h=>absurd HG0.out h) g
    have hc:false = c0:=by rw [← q.2.1]; exact (decide_eq_false HGJ.out).symm
    subst hc
    exact ⟨q.1,rfl,q.2.2⟩
   go_wp2
   rw [HHE.out]
   have HZ0:=hide (blk_alloc (BlkAt.new w (.string ⟨#[]⟩) (.slice none 0 0) (.bool false) (.bool false)) (.cells #[.string h,.slice none 0 0,.bool false,.bool false] 57))
   have HB0:=hide (BlkAt.new (w.alloc (.cells #[.string ⟨#[]⟩,.slice none 0 0,.bool false,.bool false] 57)) (.string h) (.slice none 0 0) (.bool false) (.bool false))
   have HW0:Hid (Below w.heap.size w ((w.alloc (.cells #[.string ⟨#[]⟩,.slice none 0 0,.bool false,.bool false] 57)).alloc (.cells #[.string h,.slice none 0 0,.bool false,.bool false] 57))):=((Below.refl _ _).alloc (Nat.le_refl _) _).alloc (by simp) _
   have HS0:Hid (GInv kk s (j + 1) []):=GInv.start (fun h0 ps0 c0 t0 y g=>(HG.out _ _ _ _ _ g).2.2)
   simp only [World.size_alloc] at HB0
   go_loopw [5] (fun i wr=>∃ (k:Nat) (l:List ByteArray) (v tv:Value),i = .int .i64 k ∧ Hid (∃ t':Bool,tv = .bool t') ∧ l.length ≤ 5 ∧ k ≤ s.size + 3 ∧ Hid (∀ r ∈ l,r.size ≤ s.size) ∧ Hid (GInv kk s k l) ∧ OwnS wr (w.heap.size + 2) v l ∧ zBlk wr w.heap.size ∧ BlkAt wr (w.heap.size + 1) (.string h) v (.bool false) tv ∧ w.heap.size + 2 ≤ wr.heap.size ∧ Below w.heap.size w wr) (fun _ wr=>6 - partsLen wr (w.heap.size + 1))
   case atStart=>exact ⟨j + 1,[],.slice none 0 0,.bool false,by go_num,⟨false,rfl⟩,by simp,by omega,by simp [Hid],HS0,OwnS.nil _ _,HZ0.out,HB0.out,by simp,HW0.out⟩
   case round =>
    obtain ⟨k,l,v,tv,rfl,HTV,hl5,hk,HL,HF,hS,hz,hB,hsz,hbel⟩:=hrel
    obtain ⟨t',rfl⟩:=HTV.out
    obtain ⟨a,cap,rfl,_⟩:=hS.texts
    have HPL:=hide (partsLen_at hB)
    have f0:=hB.cell0
    have f1:=hB.cell1
    have f2:=hB.cell2
    have f3:=hB.cell3
    by_cases hgo:k < s.size ∧ l.length ≤ 4
    ·have g1:(k:Int) < (s.size:Int):=by omega
     have g2:(l.length:Int) ≤ 4:=by omega
     have hl4:=hgo.2
     clear hgo
     have HS:=hide hS
     have HZ:=hide hz
     have HB:=hide hB
     clear hS hz hB
     go_wp2_with fail
     refine (part_any s k false _ hs (by omega)).mono ?_
     rintro e w1 ⟨r,nx,ok,rfl,HA,hr,hnx,hb1⟩
     have hB1:=HB.out.below hb1 (lt_of_block HB.out)
     have hZ1:=HZ.out.below hb1 (lt_of_block HZ.out)
     have hw1:=below_step hbel hb1
     have hz1:=hb1.size
     cases ok
     ·have e0:=hB1.cell0
      have e1:=hB1.cell1
      have e2:=hB1.cell2
      have e3:=hB1.cell3
      have z0:=hZ1.cell0
      have z1:=hZ1.cell1
      have z2:=hZ1.cell2
      have z3:=hZ1.cell3
      have y0:=blk_free hZ1 0
      have y1:=blk_free hZ1 1
      have y2:=blk_free hZ1 2
      have y3:=blk_free hZ1 3
      have HZ1:=hide hZ1
      have HW1:=hide hw1
      have HS1:=hide (HS.out.below hb1)
      clear hB1 hZ1 hw1 hb1
      go_wp2
      (try simp only [Exit.inBlock,Exit.then])
      refine bodyPost_ret (results_blk rfl _ _ w.heap.size rfl (blk_all HZ1.out)) rfl ?_
      refine ⟨h,_,l,false,t',rfl,hh,HL,hl5,((((HS1.out.setCell (by omega)).setCell (by omega)).setCell (by omega)).setCell (by omega)).mono (by omega),?_,((((HW1.out).setCell (by simp) _).setCell (by simp) _).setCell (by simp) _).setCell (by simp) _⟩
      intro h0 ps0 c0 t0 y g
      obtain ⟨_,rfl,_⟩:=HG.out _ _ _ _ _ g
      have:=(HF.out.cut HA.out g).1
      cases this
     ·have hnx:=hnx rfl
      have hgd:=getD_in s nx hnx
      have e1:=hB1.cell1
      have HB1:=hide hB1
      have HZ1:=hide hZ1
      have HW1:=hide hw1
      have HS1:=hide (HS.out.below hb1)
      have hnx':(nx:Int) < (s.size:Int):=by omega
      have HGD:=hide hgd
      clear hB1 hZ1 hw1 hb1 hgd
      have hfin:∀ (a2:Option Addr) (n2 cap2:Nat) (W2:World),Below (w.heap.size + 2) w1 W2 → BlkAt ((W2.setCell ⟨w.heap.size + 1,1,none⟩ (.slice a2 n2 cap2)).setCell ⟨w.heap.size + 1,3,none⟩ (.bool ((s[nx].toNat:Int) == 3))) (w.heap.size + 1) (.string h) (.slice a2 n2 cap2) (.bool false) (.bool ((s[nx].toNat:Int) == 3)) ∧ zBlk ((W2.setCell ⟨w.heap.size + 1,1,none⟩ (.slice a2 n2 cap2)).setCell ⟨w.heap.size + 1,3,none⟩ (.bool ((s[nx].toNat:Int) == 3))) w.heap.size ∧ BlkAt (W2.setCell ⟨w.heap.size + 1,1,none⟩ (.slice a2 n2 cap2)) (w.heap.size + 1) (.string h) (.slice a2 n2 cap2) (.bool false) (.bool t'):=by
       intro a2 n2 cap2 W2 hb
       exact ⟨blk_set3 (blk_set1 (HB1.out.below hb (by omega))),blk_other (blk_other (HZ1.out.below hb (by omega)) (by omega)) (by omega),blk_set1 (HB1.out.below hb (by omega))⟩
      have HFIN:=hide hfin
      clear hfin
      by_cases h31:s[nx].toNat = 31
      ·have d31:((s[nx].toNat:Int) != 31) = false:=by simp [h31]
       have HN:Hid (GInv kk s (nx + 2 + kk.toNat) (l ++ [r])):=HF.out.next HA.out (fun h0 ps0 c0 t0 y g=>(HG.out _ _ _ _ _ g).2.1) (by rw [HGD.out]; exact h31) rfl
       clear h31
       go_wp2_with (first | (at_builtin; refine app_txt _ r rfl (.tmp 74) (.tmp 76) rfl (w.heap.size + 2) _ l _ 1 rfl rfl rfl HS1.out (by omega) w1 (Below.refl _ _) (by omega) ?_; intro v2 W2 hS2 hbel2 hB2; obtain ⟨a2,cap2,rfl,_⟩:=hS2.texts; rw [List.length_append] at hS2; have HS2:=hide hS2; clear hS2; have f4:=(HB1.out.below hbel2 (by omega)).cell1; have f5:=blk_free (HB1.out.below hbel2 (by omega)) 1; have f6:=(HFIN.out a2 (l.length + 1) cap2 W2 hbel2).2.2.cell3; have f7:=blk_free (HFIN.out a2 (l.length + 1) cap2 W2 hbel2).2.2 3))
       go_roundw
       case rel =>
        refine ⟨nx + 2 + kk.toNat,l ++ [r],.slice a2 (l.length + 1) cap2,.bool ((s[nx].toNat:Int) == 3),by go_num,⟨_,rfl⟩,by simp; omega,by omega,mem_snoc_le HL.out hr,HN,(HS2.out.setCell (by omega)).setCell (by omega),(HFIN.out a2 (l.length + 1) cap2 W2 hbel2).2.1,(HFIN.out a2 (l.length + 1) cap2 W2 hbel2).1,by simp; omega,?_⟩
        exact ((HW1.out.trans (hbel2.mono (by omega))).setCell (by simp) _).setCell (by simp) _
       case measure =>
        rw [HPL.out,partsLen_at (HFIN.out a2 (l.length + 1) cap2 W2 hbel2).1]
        omega
      ·have d31:((s[nx].toNat:Int) != 31) = true:=by simp; omega
       have HN:Hid (∀ (h0:List UInt8) (ps0:List (List UInt8)) (t0:Bool) (y:List UInt8),Prs.Good kk s.data.toList h0 ps0 false t0 y → datas (l ++ [r]) = ps0 ∧ decide ((s.data.toList.getD nx 0).toNat = 3) = t0):=fun h0 ps0 t0 y g=>HF.out.last HA.out (by rw [HGD.out]; exact h31) g
       clear h31
       go_wp2_with (first | (at_builtin; refine app_txt _ r rfl (.tmp 74) (.tmp 76) rfl (w.heap.size + 2) _ l _ 1 rfl rfl rfl HS1.out (by omega) w1 (Below.refl _ _) (by omega) ?_; intro v2 W2 hS2 hbel2 hB2; obtain ⟨a2,cap2,rfl,_⟩:=hS2.texts; rw [List.length_append] at hS2; have HS2:=hide hS2; clear hS2; have f4:=(HB1.out.below hbel2 (by omega)).cell1; have f5:=blk_free (HB1.out.below hbel2 (by omega)) 1; have f6:=(HFIN.out a2 (l.length + 1) cap2 W2 hbel2).2.2.cell3; have f7:=blk_free (HFIN.out a2 (l.length + 1) cap2 W2 hbel2).2.2 3; have e0:=(HFIN.out a2 (l.length + 1) cap2 W2 hbel2).1.cell0; have e1:=(HFIN.out a2 (l.length + 1) cap2 W2 hbel2).1.cell1; have e2:=(HFIN.out a2 (l.length + 1) cap2 W2 hbel2).1.cell2; have e3:=(HFIN.out a2 (l.length + 1) cap2 W2 hbel2).1.cell3; have z0:=(HFIN.out a2 (l.length + 1) cap2 W2 hbel2).2.1.cell0; have z1:=(HFIN.out a2 (l.length + 1) cap2 W2 hbel2).2.1.cell1; have z2:=(HFIN.out a2 (l.length + 1) cap2 W2 hbel2).2.1.cell2; have z3:=(HFIN.out a2 (l.length + 1) cap2 W2 hbel2).2.1.cell3; have y0:=blk_free (HFIN.out a2 (l.length + 1) cap2 W2 hbel2).2.1 0; have y1:=blk_free (HFIN.out a2 (l.length + 1) cap2 W2 hbel2).2.1 1; have y2:=blk_free (HFIN.out a2 (l.length + 1) cap2 W2 hbel2).2.1 2; have y3:=blk_free (HFIN.out a2 (l.length + 1) cap2 W2 hbel2).2.1 3))
       (try simp only [Exit.inBlock,Exit.then])
       refine bodyPost_ret (results_blk rfl _ _ w.heap.size rfl (blk_all (HFIN.out a2 (l.length + 1) cap2 W2 hbel2).2.1)) rfl ?_
       refine ⟨h,.slice a2 (l.length + 1) cap2,l ++ [r],false,((s[nx].toNat:Int) == 3),rfl,hh,mem_snoc_le HL.out hr,by simp; omega,((((((HS2.out.setCell (by omega)).setCell (by omega)).setCell (by omega)).setCell (by omega)).setCell (by omega)).setCell (by omega)).mono (by omega),?_,?_⟩
       ·intro h0 ps0 c0 t0 y g
        obtain ⟨q1,rfl,_⟩:=HG.out _ _ _ _ _ g
        have q:=HN.out _ _ _ _ g
        refine ⟨q1,q.1,rfl,?_⟩
        rw [← q.2,HGD.out,Bool.eq_iff_iff]
        simp only [decide_eq_true_eq,beq_iff_eq]
        omega
       ·exact ((((((HW1.out.trans (hbel2.mono (by omega))).setCell (by simp) _).setCell (by simp) _).setCell (by simp) _).setCell (by simp) _).setCell (by simp) _).setCell (by simp) _
    ·have HS:=hide hS
     have z0:=hz.cell0
     have z1:=hz.cell1
     have z2:=hz.cell2
     have z3:=hz.cell3
     have y0:=blk_free hz 0
     have y1:=blk_free hz 1
     have y2:=blk_free hz 2
     have y3:=blk_free hz 3
     have HZ:=hide hz
     have HNG:Hid (¬ (k < s.size ∧ l.length ≤ 4)):=hgo
     clear hS hz hB
     by_cases g1:(k:Int) < (s.size:Int)
     ·have g2:¬ (l.length:Int) ≤ 4:=by omega
      clear hgo
      go_wp2
      (try simp only [Exit.inBlock,Exit.then])
      refine bodyPost_ret (results_blk rfl _ _ w.heap.size rfl (blk_all HZ.out)) rfl ?_
      refine ⟨h,_,l,false,t',rfl,hh,HL,hl5,((((HS.out.setCell (by omega)).setCell (by omega)).setCell (by omega)).setCell (by omega)).mono (by omega),?_,(((hbel.setCell (by simp) _).setCell (by simp) _).setCell (by simp) _).setCell (by simp) _⟩
      intro h0 ps0 c0 t0 y g
      exact absurd (HF.out.inside g) HNG.out
     ·clear hgo
      go_wp2
      (try simp only [Exit.inBlock,Exit.then])
      refine bodyPost_ret (results_blk rfl _ _ w.heap.size rfl (blk_all HZ.out)) rfl ?_
      refine ⟨h,_,l,false,t',rfl,hh,HL,hl5,((((HS.out.setCell (by omega)).setCell (by omega)).setCell (by omega)).setCell (by omega)).mono (by omega),?_,(((hbel.setCell (by simp) _).setCell (by simp) _).setCell (by simp) _).setCell (by simp) _⟩
      intro h0 ps0 c0 t0 y g
      exact absurd (HF.out.inside g) HNG.out
theorem guess_any (s:ByteArray) (kk:Int) (w:World) (hs:s.size ≤ 140737488352000) (h1:1 ≤ s.size) (hkk:kk = 0 ∨ kk = 1) :
  Calls Tryz.prog 78 #[.string s,.int .i64 kk] w fun e w'=>FoundAns kk s w e w':=by
 by_cases hso:s[0].toNat = 1
 ·exact guess_yes s kk w hs h1 hkk hso
 ·exact guess_no s kk w hs h1 hkk hso
end Go.Proofs.YtlbpjcphhocdkaaGreat
