/- The document's Read, whole: it answers what P6 asks. -/
import Derived.Test.YtlbpjcphhocdkaaGreatQ17
import Derived.Test.YtlbpjcphhocdkaaGreatQ15
set_option maxRecDepth 1000000
set_option maxHeartbeats 16000000
namespace Go.Proofs.YtlbpjcphhocdkaaGreat
open Go.RowKit
def shortsL:List ByteArray:=[⟨#[4,5]⟩,⟨#[5]⟩,⟨#[4]⟩,⟨#[21]⟩,⟨#[16,48]⟩,⟨#[16,49]⟩,⟨#[16,59]⟩]
theorem shortsL_at:∀ i:Nat,i < 7 → (shortsL.getD i ByteArray.empty).data.toList = sbody (i + 3:Nat) ∧ (shortsL.getD i ByteArray.empty).size ≤ 2:=by
 have key:∀ i:Fin 7,(shortsL.getD i.val ByteArray.empty).data.toList = sbody (i.val + 3:Nat) ∧ (shortsL.getD i.val ByteArray.empty).size ≤ 2:=by decide
 intro i hi
 exact key ⟨i,hi⟩
theorem shorts_any (w:World) :
  Calls Tryz.prog 43 #[] w fun e w'=>e = .returned (.slice (some ⟨w.heap.size,0,none⟩) 7 7) ∧ w'.heap[w.heap.size]? = some (.cells (shortsL.map Value.string).toArray 9 (0,0)) ∧ Below w.heap.size w w':=by
 go_enter Tryz.func43,Tryz.ntmps43
 go_wp2
 go_ret
 exact ⟨rfl,heap_alloc_new w _,(Below.refl _ _).alloc (Nat.le_refl _) _⟩
theorem begins_at (s:ByteArray) (h:1 ≤ s.size):begins s.data.toList = (decide (s[0].toNat = 1) || decide (s[0].toNat = 2) || (decide (s[0].toNat = 16) && decide ((s.data.toList.getD 1 0).toNat = 2))):=by
 unfold begins
 rw [getD_in s 0 (by omega),Bool.eq_iff_iff]
 simp only [decide_eq_true_eq,Bool.or_eq_true,Bool.and_eq_true]
 omega
theorem refRead_no (s:ByteArray) (kk:Int) (w:World) (hk:¬ (kk = 0 ∨ kk = 1)) :
  Calls Tryz.prog 48 #[.string s,.int .i64 kk] w fun e w'=>e = .returned (.tuple #[zHeard 0,.int .i64 1]) ∧ Below w.heap.size w w':=by
 have hd:Hid (decide (kk = 0 ∨ kk = 1) = false):=by simp [Hid,hk]
 have hH:=HrdAt.new w (.int .i64 0) (.string ⟨#[]⟩) (.slice none 0 0) (.bool false) (.bool false)
 have hw:Below w.heap.size w (w.alloc (.cells #[.int .i64 0,.string ⟨#[]⟩,.slice none 0 0,.bool false,.bool false] 98)):=(Below.refl _ _).alloc (Nat.le_refl _) _
 have HH:=hide hH
 have HW:=hide hw
 clear hH hw hk
 go_enter Tryz.func48,Tryz.ntmps48
 go_wp2_with (first | (go_at_call 73; refine (checked_any kk _).mono ?_; rintro e w1 ⟨rfl,rfl⟩; rw [hd.out]))
 (try simp only [Exit.inBlock,Exit.then])
 refine bodyPost_ret (results_hrd2 rfl _ _ w.heap.size rfl HH.out) rfl ?_
 exact ⟨rfl,HW.out⟩
theorem encS_is {h:List UInt8} {ps:List (List UInt8)} {c t:Bool} {k:Int} (e:Blk.encE h ps c k = 0):Blk.encS h ps c t k = [22,22] ++ Blk.body h ps c t k ++ [255]:=by simp [Blk.encS,e]
theorem enc_berr {h:List UInt8} {ps:List (List UInt8)} {c:Bool} {k:Int} (hk:k = 0 ∨ k = 1):Blk.encE h ps c k = Blk.berr h ps c:=by unfold Blk.encE; rw [if_pos hk]
theorem wrap_eq (r:ByteArray) (l:List UInt8):(⟨([22,22] ++ l ++ [255]).toArray⟩:ByteArray) = ⟨#[22,22]⟩ ++ r ↔ r.data.toList = l ++ [255]:=by
 have h1:Is (⟨#[22,22]⟩ ++ r) ([22,22] ++ r.data.toList):=(Is.mk [22,22]).append (Is.self r)
 have h2:(⟨#[22,22]⟩ ++ r:ByteArray) = ⟨([22,22] ++ r.data.toList).toArray⟩:=h1
 rw [h2]
 constructor
 ·intro h
  have:=congrArg (fun b:ByteArray=>b.data.toList) h
  simp only [List.append_assoc] at this
  exact (List.append_cancel_left this).symm
 ·intro h
  rw [h,List.append_assoc]
theorem getD_one (s:ByteArray) (h:¬ 1 < s.size):s.data.toList.getD 1 0 = 0:=getD_out s 1 h
theorem refRead_nil (s:ByteArray) (kk:Int) (w:World) (hs:s.size ≤ 140737488352000) (hk:kk = 0 ∨ kk = 1) (hyp:Prs.restL s.data.toList = []) :
  Calls Tryz.prog 48 #[.string s,.int .i64 kk] w fun e w'=>ReadPost kk s.data.toList w e w':=by
 have hd:Hid (decide (kk = 0 ∨ kk = 1) = true):=by simp [Hid,hk]
 have HK:=hide hk
 have hH:=HrdAt.new w (.int .i64 0) (.string ⟨#[]⟩) (.slice none 0 0) (.bool false) (.bool false)
 have hw:Below w.heap.size w (w.alloc (.cells #[.int .i64 0,.string ⟨#[]⟩,.slice none 0 0,.bool false,.bool false] 98)):=(Below.refl _ _).alloc (Nat.le_refl _) _
 have HH:=hide hH
 have HW:=hide hw
 have HYP:=hide hyp
 clear hH hw hk hyp
 go_enter Tryz.func48,Tryz.ntmps48
 go_wp2_with (first | (go_at_call 73; refine (checked_any kk _).mono ?_; rintro e w1 ⟨rfl,rfl⟩; rw [hd.out]))
 refine (restOf_any s _ hs).mono ?_
 rintro e w0 ⟨r,rfl,HR,hr0,rfl⟩
 have hr:r.size ≤ 140737488352000:=by omega
 generalize hW1:w.alloc (.cells #[.int .i64 0,.string ⟨#[]⟩,.slice none 0 0,.bool false,.bool false] 98) = W1 at *
 have hz1:W1.heap.size = w.heap.size + 1:=by rw [← hW1]; simp
 clear hW1
 have hre:r.data.toList = []:=by rw [HR.out.data]; exact HYP.out
 have hE:r.toList.isEmpty = true:=by rw [ByteArray.toList_eq]; simp [hre]
 clear hre
 obtain ⟨c0,c1,c2,c3,c4⟩:=HH.out.cell
 have y0:=HH.out.free 0
 have y1:=HH.out.free 1
 have y2:=HH.out.free 2
 have y3:=HH.out.free 3
 have y4:=HH.out.free 4
 go_wp2
 (try simp only [Exit.inBlock,Exit.then])
 refine bodyPost_ret (results_hrd2 rfl _ _ w.heap.size rfl (HrdAt.all HH.out)) rfl ?_
 refine ⟨.none 0,_,rfl,Or.inr ⟨?_,Or.inr ⟨rfl,fun m a b=>?_⟩⟩,rfl,below_five HW.out (Nat.le_refl _) _ _ _ _ _⟩
 ·rw [HYP.out]; rfl
 ·rw [HYP.out]
  intro h
  have:=congrArg List.length h
  simp at this
theorem refRead_beg (s:ByteArray) (kk:Int) (w:World) (hs:s.size ≤ 140737488352000) (hk:kk = 0 ∨ kk = 1) (hyp:¬ Prs.restL s.data.toList = [] ∧ begins (Prs.restL s.data.toList) = true) :
  Calls Tryz.prog 48 #[.string s,.int .i64 kk] w fun e w'=>ReadPost kk s.data.toList w e w':=by
 have hd:Hid (decide (kk = 0 ∨ kk = 1) = true):=by simp [Hid,hk]
 have HK:=hide hk
 have hH:=HrdAt.new w (.int .i64 0) (.string ⟨#[]⟩) (.slice none 0 0) (.bool false) (.bool false)
 have hw:Below w.heap.size w (w.alloc (.cells #[.int .i64 0,.string ⟨#[]⟩,.slice none 0 0,.bool false,.bool false] 98)):=(Below.refl _ _).alloc (Nat.le_refl _) _
 have HH:=hide hH
 have HW:=hide hw
 have HYP:=hide hyp
 clear hH hw hk hyp
 go_enter Tryz.func48,Tryz.ntmps48
 go_wp2_with (first | (go_at_call 73; refine (checked_any kk _).mono ?_; rintro e w1 ⟨rfl,rfl⟩; rw [hd.out]))
 refine (restOf_any s _ hs).mono ?_
 rintro e w0 ⟨r,rfl,HR,hr0,rfl⟩
 have hr:r.size ≤ 140737488352000:=by omega
 generalize hW1:w.alloc (.cells #[.int .i64 0,.string ⟨#[]⟩,.slice none 0 0,.bool false,.bool false] 98) = W1 at *
 have hz1:W1.heap.size = w.heap.size + 1:=by rw [← hW1]; simp
 clear hW1
 have hre:¬ r.data.toList = []:=by rw [HR.out.data]; exact HYP.out.1
 have hE:r.toList.isEmpty = false:=by rw [ByteArray.toList_eq]; simpa using hre
 have h1:1 ≤ r.size:=by
  rcases Nat.eq_zero_or_pos r.size with h | h
  ·exact absurd (List.eq_nil_of_length_eq_zero (by rw [size_list]; exact h)) hre
  ·exact h
 have hq0:=getD_in r 0 (by omega)
 have HBG:Hid (begins r.data.toList = true):=by rw [Hid,HR.out.data]; exact HYP.out.2
 have hbg:=begins_at r h1
 rw [HBG.out] at hbg
 have h0':(0:Int) < (r.size:Int):=by omega
 clear hre hq0
 by_cases x1:r[0].toNat = 1
 ·have d1:((r[0].toNat:Int) == 1) = true:=by simp [x1]
  clear x1 hbg
  go_wp2_with fail
  refine (guess_any r kk _ hr h1 HK.out).mono ?_
  rintro e w1 ⟨h,v,l,c,t,rfl,hh,HL,hl5,hS,HG,hb1⟩
  obtain ⟨a,cap,rfl,htx⟩:=hS.texts
  have hH1:=HH.out.below hb1 (by omega)
  have hw1:=HW.out.trans (hb1.mono (by omega))
  have HH2:=hide (hH1.alloc (.cells #[.string h,.slice a l.length cap,.bool c,.bool t] 57))
  have HB2:=hide (BlkAt.new w1 (.string h) (.slice a l.length cap) (.bool c) (.bool t))
  have hb2:Below w1.heap.size w1 (w1.alloc (.cells #[.string h,.slice a l.length cap,.bool c,.bool t] 57)):=(Below.refl _ _).alloc (Nat.le_refl _) _
  have HW2:=hide (below_step hw1 hb2)
  have HT2:=hide (htx.below hb2)
  have hS2:=hS.below hb2
  have HS2:=hide hS2
  have hlt:w.heap.size < w1.heap.size:=lt_of_block hH1
  clear hS hS2 htx hb1 hb2 hH1 hw1
  have HLL:Hid (∀ r ∈ l,r.size ≤ 140737488352000):=fun x hx=>Nat.le_trans (HL.out x hx) hr
  generalize hW2:w1.alloc (.cells #[.string h,.slice a l.length cap,.bool c,.bool t] 57) = W2 at *
  have hz2:W2.heap.size = w1.heap.size + 1:=by rw [← hW2]; simp
  have HQ:=hide hW2
  clear hW2
  go_wp2_with fail
  rw [HQ.out]
  have HEE:=hide (enc_berr (h:=h.data.toList) (ps:=datas l) (c:=c) HK.out)
  refine (refEncode_any h a l cap c t kk _ (by omega) HLL.out (by omega) HT2.out).mono ?_
  rintro e w3 ⟨rfl,hb3⟩
  have hB3:=HB2.out.below hb3 (by omega)
  have k0:=hB3.cell0
  have k1:=hB3.cell1
  have k2:=hB3.cell2
  have k3:=hB3.cell3
  have hH5:=HH2.out.below hb3 (by omega)
  obtain ⟨c0,c1,c2,c3,c4⟩:=hH5.cell
  have y0:=hH5.free 0
  have y1:=hH5.free 1
  have y2:=hH5.free 2
  have y3:=hH5.free 3
  have y4:=hH5.free 4
  have HH5:=hide hH5
  have HW5:=hide hb3
  clear hH5 hb3 hB3
  by_cases hz:Blk.encE h.data.toList (datas l) c kk = 0
  ·have HZ:=hide (HEE.out.symm.trans hz)
   rw [encS_is hz,hz]
   clear hz
   by_cases he:r.data.toList = Blk.body h.data.toList (datas l) c t kk ++ [255]
   ·have hd:=(wrap_eq r (Blk.body h.data.toList (datas l) c t kk)).2 he
    have HE:=hide he
    clear he
    rw [hd]
    have hdd:((⟨#[22,22]⟩ ++ r:ByteArray).toList != (⟨#[22,22]⟩ ++ r:ByteArray).toList) = false:=by simp
    clear hd
    go_wp2
    (try simp only [Exit.inBlock,Exit.then])
    refine bodyPost_ret (results_hrd2 rfl _ _ w.heap.size rfl (HrdAt.all HH5.out)) rfl ?_
    refine ⟨.data h.data.toList (datas l) c t,_,rfl,⟨?_,?_⟩,⟨h,_,l,rfl,rfl,rfl,?_⟩,below_five (HW2.out.trans (HW5.out.mono (by omega))) (Nat.le_refl _) _ _ _ _ _⟩
    ·rw [← HR.out.data]; exact HBG.out
    ·rw [← HR.out.data]; exact ⟨HZ.out,HK.out,HE.out⟩
    ·exact (own_five (HS2.out.below HW5.out) (by omega) _ _ _ _ _).mono (by omega)
   ·have hd:¬ (⟨([22,22] ++ Blk.body h.data.toList (datas l) c t kk ++ [255]).toArray⟩:ByteArray) = ⟨#[22,22]⟩ ++ r:=fun h=>he ((wrap_eq _ _).1 h)
    have HE:=hide he
    clear he
    generalize (⟨([22,22] ++ Blk.body h.data.toList (datas l) c t kk ++ [255]).toArray⟩:ByteArray) = z at *
    have hd2:=str_no hd
    clear hd
    go_wp2
    (try simp only [Exit.inBlock,Exit.then])
    refine bodyPost_ret (results_hrd2 rfl _ _ w.heap.size rfl (HrdAt.all HH5.out)) rfl ?_
    refine ⟨.none 1,_,rfl,Or.inl ⟨?_,rfl,?_⟩,rfl,below_five (HW2.out.trans (HW5.out.mono (by omega))) (Nat.le_refl _) _ _ _ _ _⟩
    ·rw [← HR.out.data]; exact HBG.out
    ·rw [← HR.out.data]
     intro h0 ps0 c0 t0 g
     obtain ⟨rfl,rfl,rfl,rfl⟩:=HG.out _ _ _ _ _ g
     exact HE.out g.eq
  ·have HZ:=hide hz
   have hSS:Blk.encS h.data.toList (datas l) c t kk = []:=by simp [Blk.encS,hz]
   rw [hSS]
   generalize hbz:Blk.encE h.data.toList (datas l) c kk = z at *
   have HBZ:=hide hbz
   have hnz:(z != 0) = true:=by simp [hz]
   clear hz hbz hSS
   go_wp2
   (try simp only [Exit.inBlock,Exit.then])
   refine bodyPost_ret (results_hrd2 rfl _ _ w.heap.size rfl (HrdAt.all HH5.out)) rfl ?_
   refine ⟨.none 1,_,rfl,Or.inl ⟨?_,rfl,?_⟩,rfl,below_five (HW2.out.trans (HW5.out.mono (by omega))) (Nat.le_refl _) _ _ _ _ _⟩
   ·rw [← HR.out.data]; exact HBG.out
   ·rw [← HR.out.data]
    intro h0 ps0 c0 t0 g
    obtain ⟨rfl,rfl,rfl,rfl⟩:=HG.out _ _ _ _ _ g
    exact HZ.out (HEE.out.trans g.ok)
 ·have d1:((r[0].toNat:Int) == 1) = false:=by simp; omega
  by_cases x2:r[0].toNat = 2
  ·have d2:((r[0].toNat:Int) == 2) = true:=by simp [x2]
   clear x1 x2 hbg
   go_wp2_with fail
   refine (guess_any r kk _ hr h1 HK.out).mono ?_
   rintro e w1 ⟨h,v,l,c,t,rfl,hh,HL,hl5,hS,HG,hb1⟩
   obtain ⟨a,cap,rfl,htx⟩:=hS.texts
   have hH1:=HH.out.below hb1 (by omega)
   have hw1:=HW.out.trans (hb1.mono (by omega))
   have HH2:=hide (hH1.alloc (.cells #[.string h,.slice a l.length cap,.bool c,.bool t] 57))
   have HB2:=hide (BlkAt.new w1 (.string h) (.slice a l.length cap) (.bool c) (.bool t))
   have hb2:Below w1.heap.size w1 (w1.alloc (.cells #[.string h,.slice a l.length cap,.bool c,.bool t] 57)):=(Below.refl _ _).alloc (Nat.le_refl _) _
   have HW2:=hide (below_step hw1 hb2)
   have HT2:=hide (htx.below hb2)
   have hS2:=hS.below hb2
   have HS2:=hide hS2
   have hlt:w.heap.size < w1.heap.size:=lt_of_block hH1
   clear hS hS2 htx hb1 hb2 hH1 hw1
   have HLL:Hid (∀ r ∈ l,r.size ≤ 140737488352000):=fun x hx=>Nat.le_trans (HL.out x hx) hr
   generalize hW2:w1.alloc (.cells #[.string h,.slice a l.length cap,.bool c,.bool t] 57) = W2 at *
   have hz2:W2.heap.size = w1.heap.size + 1:=by rw [← hW2]; simp
   have HQ:=hide hW2
   clear hW2
   go_wp2_with fail
   rw [HQ.out]
   have HEE:=hide (enc_berr (h:=h.data.toList) (ps:=datas l) (c:=c) HK.out)
   refine (refEncode_any h a l cap c t kk _ (by omega) HLL.out (by omega) HT2.out).mono ?_
   rintro e w3 ⟨rfl,hb3⟩
   have hB3:=HB2.out.below hb3 (by omega)
   have k0:=hB3.cell0
   have k1:=hB3.cell1
   have k2:=hB3.cell2
   have k3:=hB3.cell3
   have hH5:=HH2.out.below hb3 (by omega)
   obtain ⟨c0,c1,c2,c3,c4⟩:=hH5.cell
   have y0:=hH5.free 0
   have y1:=hH5.free 1
   have y2:=hH5.free 2
   have y3:=hH5.free 3
   have y4:=hH5.free 4
   have HH5:=hide hH5
   have HW5:=hide hb3
   clear hH5 hb3 hB3
   by_cases hz:Blk.encE h.data.toList (datas l) c kk = 0
   ·have HZ:=hide (HEE.out.symm.trans hz)
    rw [encS_is hz,hz]
    clear hz
    by_cases he:r.data.toList = Blk.body h.data.toList (datas l) c t kk ++ [255]
    ·have hd:=(wrap_eq r (Blk.body h.data.toList (datas l) c t kk)).2 he
     have HE:=hide he
     clear he
     rw [hd]
     have hdd:((⟨#[22,22]⟩ ++ r:ByteArray).toList != (⟨#[22,22]⟩ ++ r:ByteArray).toList) = false:=by simp
     clear hd
     go_wp2
     (try simp only [Exit.inBlock,Exit.then])
     refine bodyPost_ret (results_hrd2 rfl _ _ w.heap.size rfl (HrdAt.all HH5.out)) rfl ?_
     refine ⟨.data h.data.toList (datas l) c t,_,rfl,⟨?_,?_⟩,⟨h,_,l,rfl,rfl,rfl,?_⟩,below_five (HW2.out.trans (HW5.out.mono (by omega))) (Nat.le_refl _) _ _ _ _ _⟩
     ·rw [← HR.out.data]; exact HBG.out
     ·rw [← HR.out.data]; exact ⟨HZ.out,HK.out,HE.out⟩
     ·exact (own_five (HS2.out.below HW5.out) (by omega) _ _ _ _ _).mono (by omega)
    ·have hd:¬ (⟨([22,22] ++ Blk.body h.data.toList (datas l) c t kk ++ [255]).toArray⟩:ByteArray) = ⟨#[22,22]⟩ ++ r:=fun h=>he ((wrap_eq _ _).1 h)
     have HE:=hide he
     clear he
     generalize (⟨([22,22] ++ Blk.body h.data.toList (datas l) c t kk ++ [255]).toArray⟩:ByteArray) = z at *
     have hd2:=str_no hd
     clear hd
     go_wp2
     (try simp only [Exit.inBlock,Exit.then])
     refine bodyPost_ret (results_hrd2 rfl _ _ w.heap.size rfl (HrdAt.all HH5.out)) rfl ?_
     refine ⟨.none 1,_,rfl,Or.inl ⟨?_,rfl,?_⟩,rfl,below_five (HW2.out.trans (HW5.out.mono (by omega))) (Nat.le_refl _) _ _ _ _ _⟩
     ·rw [← HR.out.data]; exact HBG.out
     ·rw [← HR.out.data]
      intro h0 ps0 c0 t0 g
      obtain ⟨rfl,rfl,rfl,rfl⟩:=HG.out _ _ _ _ _ g
      exact HE.out g.eq
   ·have HZ:=hide hz
    have hSS:Blk.encS h.data.toList (datas l) c t kk = []:=by simp [Blk.encS,hz]
    rw [hSS]
    generalize hbz:Blk.encE h.data.toList (datas l) c kk = z at *
    have HBZ:=hide hbz
    have hnz:(z != 0) = true:=by simp [hz]
    clear hz hbz hSS
    go_wp2
    (try simp only [Exit.inBlock,Exit.then])
    refine bodyPost_ret (results_hrd2 rfl _ _ w.heap.size rfl (HrdAt.all HH5.out)) rfl ?_
    refine ⟨.none 1,_,rfl,Or.inl ⟨?_,rfl,?_⟩,rfl,below_five (HW2.out.trans (HW5.out.mono (by omega))) (Nat.le_refl _) _ _ _ _ _⟩
    ·rw [← HR.out.data]; exact HBG.out
    ·rw [← HR.out.data]
     intro h0 ps0 c0 t0 g
     obtain ⟨rfl,rfl,rfl,rfl⟩:=HG.out _ _ _ _ _ g
     exact HZ.out (HEE.out.trans g.ok)
  ·have d2:((r[0].toNat:Int) == 2) = false:=by simp; omega
   have x3:r[0].toNat = 16 ∧ (r.data.toList.getD 1 0).toNat = 2:=by simpa [x1,x2] using hbg.symm
   have hsz:1 < r.size:=by
    rcases Nat.lt_or_ge 1 r.size with h | h
    ·exact h
    ·have:=x3.2
     rw [getD_one r (by omega)] at this
     cases this
   have hsz':(1:Int) < (r.size:Int):=by omega
   have d3:((r[0].toNat:Int) == 16) = true:=by simp [x3.1]
   have x4:r[1].toNat = 2:=by rw [← getD_in r 1 hsz]; exact x3.2
   have d4:((r[1].toNat:Int) == 2) = true:=by simp [x4]
   clear x1 x2 x3 x4 hbg
   go_wp2_with fail
   refine (guess_any r kk _ hr h1 HK.out).mono ?_
   rintro e w1 ⟨h,v,l,c,t,rfl,hh,HL,hl5,hS,HG,hb1⟩
   obtain ⟨a,cap,rfl,htx⟩:=hS.texts
   have hH1:=HH.out.below hb1 (by omega)
   have hw1:=HW.out.trans (hb1.mono (by omega))
   have HH2:=hide (hH1.alloc (.cells #[.string h,.slice a l.length cap,.bool c,.bool t] 57))
   have HB2:=hide (BlkAt.new w1 (.string h) (.slice a l.length cap) (.bool c) (.bool t))
   have hb2:Below w1.heap.size w1 (w1.alloc (.cells #[.string h,.slice a l.length cap,.bool c,.bool t] 57)):=(Below.refl _ _).alloc (Nat.le_refl _) _
   have HW2:=hide (below_step hw1 hb2)
   have HT2:=hide (htx.below hb2)
   have hS2:=hS.below hb2
   have HS2:=hide hS2
   have hlt:w.heap.size < w1.heap.size:=lt_of_block hH1
   clear hS hS2 htx hb1 hb2 hH1 hw1
   have HLL:Hid (∀ r ∈ l,r.size ≤ 140737488352000):=fun x hx=>Nat.le_trans (HL.out x hx) hr
   generalize hW2:w1.alloc (.cells #[.string h,.slice a l.length cap,.bool c,.bool t] 57) = W2 at *
   have hz2:W2.heap.size = w1.heap.size + 1:=by rw [← hW2]; simp
   have HQ:=hide hW2
   clear hW2
   go_wp2_with fail
   rw [HQ.out]
   have HEE:=hide (enc_berr (h:=h.data.toList) (ps:=datas l) (c:=c) HK.out)
   refine (refEncode_any h a l cap c t kk _ (by omega) HLL.out (by omega) HT2.out).mono ?_
   rintro e w3 ⟨rfl,hb3⟩
   have hB3:=HB2.out.below hb3 (by omega)
   have k0:=hB3.cell0
   have k1:=hB3.cell1
   have k2:=hB3.cell2
   have k3:=hB3.cell3
   have hH5:=HH2.out.below hb3 (by omega)
   obtain ⟨c0,c1,c2,c3,c4⟩:=hH5.cell
   have y0:=hH5.free 0
   have y1:=hH5.free 1
   have y2:=hH5.free 2
   have y3:=hH5.free 3
   have y4:=hH5.free 4
   have HH5:=hide hH5
   have HW5:=hide hb3
   clear hH5 hb3 hB3
   by_cases hz:Blk.encE h.data.toList (datas l) c kk = 0
   ·have HZ:=hide (HEE.out.symm.trans hz)
    rw [encS_is hz,hz]
    clear hz
    by_cases he:r.data.toList = Blk.body h.data.toList (datas l) c t kk ++ [255]
    ·have hd:=(wrap_eq r (Blk.body h.data.toList (datas l) c t kk)).2 he
     have HE:=hide he
     clear he
     rw [hd]
     have hdd:((⟨#[22,22]⟩ ++ r:ByteArray).toList != (⟨#[22,22]⟩ ++ r:ByteArray).toList) = false:=by simp
     clear hd
     go_wp2
     (try simp only [Exit.inBlock,Exit.then])
     refine bodyPost_ret (results_hrd2 rfl _ _ w.heap.size rfl (HrdAt.all HH5.out)) rfl ?_
     refine ⟨.data h.data.toList (datas l) c t,_,rfl,⟨?_,?_⟩,⟨h,_,l,rfl,rfl,rfl,?_⟩,below_five (HW2.out.trans (HW5.out.mono (by omega))) (Nat.le_refl _) _ _ _ _ _⟩
     ·rw [← HR.out.data]; exact HBG.out
     ·rw [← HR.out.data]; exact ⟨HZ.out,HK.out,HE.out⟩
     ·exact (own_five (HS2.out.below HW5.out) (by omega) _ _ _ _ _).mono (by omega)
    ·have hd:¬ (⟨([22,22] ++ Blk.body h.data.toList (datas l) c t kk ++ [255]).toArray⟩:ByteArray) = ⟨#[22,22]⟩ ++ r:=fun h=>he ((wrap_eq _ _).1 h)
     have HE:=hide he
     clear he
     generalize (⟨([22,22] ++ Blk.body h.data.toList (datas l) c t kk ++ [255]).toArray⟩:ByteArray) = z at *
     have hd2:=str_no hd
     clear hd
     go_wp2
     (try simp only [Exit.inBlock,Exit.then])
     refine bodyPost_ret (results_hrd2 rfl _ _ w.heap.size rfl (HrdAt.all HH5.out)) rfl ?_
     refine ⟨.none 1,_,rfl,Or.inl ⟨?_,rfl,?_⟩,rfl,below_five (HW2.out.trans (HW5.out.mono (by omega))) (Nat.le_refl _) _ _ _ _ _⟩
     ·rw [← HR.out.data]; exact HBG.out
     ·rw [← HR.out.data]
      intro h0 ps0 c0 t0 g
      obtain ⟨rfl,rfl,rfl,rfl⟩:=HG.out _ _ _ _ _ g
      exact HE.out g.eq
   ·have HZ:=hide hz
    have hSS:Blk.encS h.data.toList (datas l) c t kk = []:=by simp [Blk.encS,hz]
    rw [hSS]
    generalize hbz:Blk.encE h.data.toList (datas l) c kk = z at *
    have HBZ:=hide hbz
    have hnz:(z != 0) = true:=by simp [hz]
    clear hz hbz hSS
    go_wp2
    (try simp only [Exit.inBlock,Exit.then])
    refine bodyPost_ret (results_hrd2 rfl _ _ w.heap.size rfl (HrdAt.all HH5.out)) rfl ?_
    refine ⟨.none 1,_,rfl,Or.inl ⟨?_,rfl,?_⟩,rfl,below_five (HW2.out.trans (HW5.out.mono (by omega))) (Nat.le_refl _) _ _ _ _ _⟩
    ·rw [← HR.out.data]; exact HBG.out
    ·rw [← HR.out.data]
     intro h0 ps0 c0 t0 g
     obtain ⟨rfl,rfl,rfl,rfl⟩:=HG.out _ _ _ _ _ g
     exact HZ.out (HEE.out.trans g.ok)
theorem refRead_not (s:ByteArray) (kk:Int) (w:World) (hs:s.size ≤ 140737488352000) (hk:kk = 0 ∨ kk = 1) (hyp:¬ Prs.restL s.data.toList = [] ∧ begins (Prs.restL s.data.toList) = false) :
  Calls Tryz.prog 48 #[.string s,.int .i64 kk] w fun e w'=>ReadPost kk s.data.toList w e w':=by
 have hd:Hid (decide (kk = 0 ∨ kk = 1) = true):=by simp [Hid,hk]
 have HK:=hide hk
 have hH:=HrdAt.new w (.int .i64 0) (.string ⟨#[]⟩) (.slice none 0 0) (.bool false) (.bool false)
 have hw:Below w.heap.size w (w.alloc (.cells #[.int .i64 0,.string ⟨#[]⟩,.slice none 0 0,.bool false,.bool false] 98)):=(Below.refl _ _).alloc (Nat.le_refl _) _
 have HH:=hide hH
 have HW:=hide hw
 have HYP:=hide hyp
 clear hH hw hk hyp
 go_enter Tryz.func48,Tryz.ntmps48
 go_wp2_with (first | (go_at_call 73; refine (checked_any kk _).mono ?_; rintro e w1 ⟨rfl,rfl⟩; rw [hd.out]))
 refine (restOf_any s _ hs).mono ?_
 rintro e w0 ⟨r,rfl,HR,hr0,rfl⟩
 have hr:r.size ≤ 140737488352000:=by omega
 generalize hW1:w.alloc (.cells #[.int .i64 0,.string ⟨#[]⟩,.slice none 0 0,.bool false,.bool false] 98) = W1 at *
 have hz1:W1.heap.size = w.heap.size + 1:=by rw [← hW1]; simp
 clear hW1
 have hre:¬ r.data.toList = []:=by rw [HR.out.data]; exact HYP.out.1
 have hE:r.toList.isEmpty = false:=by rw [ByteArray.toList_eq]; simpa using hre
 have h1:1 ≤ r.size:=by
  rcases Nat.eq_zero_or_pos r.size with h | h
  ·exact absurd (List.eq_nil_of_length_eq_zero (by rw [size_list]; exact h)) hre
  ·exact h
 have hq0:=getD_in r 0 (by omega)
 have HBG:Hid (begins r.data.toList = false):=by rw [Hid,HR.out.data]; exact HYP.out.2
 have hbg:=begins_at r h1
 rw [HBG.out] at hbg
 have h0':(0:Int) < (r.size:Int):=by omega
 clear hre hq0
 have x1:¬ r[0].toNat = 1:=by intro h; simp [h] at hbg
 have x2:¬ r[0].toNat = 2:=by intro h; simp [h] at hbg
 have d1:((r[0].toNat:Int) == 1) = false:=by simp; omega
 have d2:((r[0].toNat:Int) == 2) = false:=by simp; omega
 by_cases hsz:1 < r.size
 ·have hsz':(1:Int) < (r.size:Int):=by omega
  by_cases x3:r[0].toNat = 16
  ·have d3:((r[0].toNat:Int) == 16) = true:=by simp [x3]
   have x4:¬ r[1].toNat = 2:=by
    intro h
    rw [getD_in r 1 hsz] at hbg
    simp [x3,h] at hbg
   have d4:((r[1].toNat:Int) == 2) = false:=by simp; omega
   clear x1 x2 x3 x4 hbg
   go_wp2_with fail
   refine (shorts_any _).mono ?_
   rintro e w1 ⟨rfl,hsb,hb1⟩
   rw [hz1] at hsb
   have hH5:=HH.out.below hb1 (by omega)
   obtain ⟨c0,c1,c2,c3,c4⟩:=hH5.cell
   have y0:=hH5.free 0
   have y1:=hH5.free 1
   have y2:=hH5.free 2
   have y3:=hH5.free 3
   have y4:=hH5.free 4
   have HH5:=hide hH5
   have HW5:=hide (HW.out.trans (hb1.mono (by omega)))
   have HSB:=hide hsb
   clear hH5 hb1 hsb
   go_wp2
   go_loop [12] (fun i=>∃ j:Nat,j ≤ 7 ∧ i = .int .i64 j ∧ Hid (∀ m:Nat,3 ≤ m → m < j + 3 → r.data.toList ≠ sbody m ++ [255])) (fun i=>7 - (intOf i).toNat)
   case atStart=>exact ⟨0,by omega,rfl,fun m a b=>by omega⟩
   case round =>
    obtain ⟨j,hj,rfl,HJ⟩:=hrel
    by_cases hlt:j < 7
    ·have hlt':(j:Int) < 7:=by omega
     have hcl:w1.cell? ⟨w.heap.size + 1,j,none⟩ = some (.string (shortsL.getD j ByteArray.empty)):=by
      rw [cell_of_row _ _ _ _ _ _ HSB.out]
      simp [List.getElem?_eq_getElem (show j < shortsL.length from hlt),List.getD]
     have hq:=shortsL_at j hlt
     generalize shortsL.getD j ByteArray.empty = q at *
     have hqz:=hq.2
     have HQD:=hide hq.1
     clear hq
     have hI:Is (q ++ ⟨#[255]⟩) (sbody ((j + 3:Nat):Int) ++ [255]):=by
      have:=(Is.self q).append (Is.mk [255])
      rw [HQD.out] at this
      exact this
     by_cases he:r.data.toList = sbody ((j + 3:Nat):Int) ++ [255]
     ·have hd:(r.toList == (q ++ ⟨#[255]⟩:ByteArray).toList) = true:=by
       have:r = q ++ ⟨#[255]⟩:=((str_eq _ _).2 he).trans hI.symm
       rw [this]; simp
      have HE:=hide he
      clear he hI
      go_wp2
      (try simp only [Exit.inBlock,Exit.then])
      refine bodyPost_ret (results_hrd2 rfl _ _ w.heap.size rfl (HrdAt.all HH5.out)) rfl ?_
      refine ⟨.none (j + 3),_,rfl,Or.inr ⟨?_,Or.inl ⟨by omega,by omega,?_⟩⟩,?_,below_five HW5.out (Nat.le_refl _) _ _ _ _ _⟩
      ·rw [← HR.out.data]; exact HBG.out
      ·rw [← HR.out.data]; exact HE.out
      ·show _ = zHeard (j + 3)
       unfold zHeard
       rw [show ((j + 3:Nat):Int) = 3 + (j:Int) by omega]
     ·have hd:(r.toList == (q ++ ⟨#[255]⟩:ByteArray).toList) = false:=str_no (fun h=>he (by rw [h]; exact hI.data))
      have HE:=hide he
      clear he hI
      go_wp2
      go_round
      case rel=>exact ⟨j + 1,by omega,by go_num,fun m a b=>by
       by_cases hm:m = j + 3
       ·subst hm; exact HE.out
       ·exact HJ.out m a (by omega)⟩
      case measure=>simp [intOf]; omega
    ·have hlt':¬ (j:Int) < 7:=by omega
     go_wp2
     (try simp only [Exit.inBlock,Exit.then])
     refine bodyPost_ret (results_hrd2 rfl _ _ w.heap.size rfl (HrdAt.all HH5.out)) rfl ?_
     refine ⟨.none 0,_,rfl,Or.inr ⟨?_,Or.inr ⟨rfl,fun m a b=>?_⟩⟩,rfl,below_five HW5.out (Nat.le_refl _) _ _ _ _ _⟩
     ·rw [← HR.out.data]; exact HBG.out
     ·rw [← HR.out.data]; exact HJ.out m a (by omega)
  ·have d3:((r[0].toNat:Int) == 16) = false:=by simp; omega
   clear x1 x2 x3 hbg
   go_wp2_with fail
   refine (shorts_any _).mono ?_
   rintro e w1 ⟨rfl,hsb,hb1⟩
   rw [hz1] at hsb
   have hH5:=HH.out.below hb1 (by omega)
   obtain ⟨c0,c1,c2,c3,c4⟩:=hH5.cell
   have y0:=hH5.free 0
   have y1:=hH5.free 1
   have y2:=hH5.free 2
   have y3:=hH5.free 3
   have y4:=hH5.free 4
   have HH5:=hide hH5
   have HW5:=hide (HW.out.trans (hb1.mono (by omega)))
   have HSB:=hide hsb
   clear hH5 hb1 hsb
   go_wp2
   go_loop [12] (fun i=>∃ j:Nat,j ≤ 7 ∧ i = .int .i64 j ∧ Hid (∀ m:Nat,3 ≤ m → m < j + 3 → r.data.toList ≠ sbody m ++ [255])) (fun i=>7 - (intOf i).toNat)
   case atStart=>exact ⟨0,by omega,rfl,fun m a b=>by omega⟩
   case round =>
    obtain ⟨j,hj,rfl,HJ⟩:=hrel
    by_cases hlt:j < 7
    ·have hlt':(j:Int) < 7:=by omega
     have hcl:w1.cell? ⟨w.heap.size + 1,j,none⟩ = some (.string (shortsL.getD j ByteArray.empty)):=by
      rw [cell_of_row _ _ _ _ _ _ HSB.out]
      simp [List.getElem?_eq_getElem (show j < shortsL.length from hlt),List.getD]
     have hq:=shortsL_at j hlt
     generalize shortsL.getD j ByteArray.empty = q at *
     have hqz:=hq.2
     have HQD:=hide hq.1
     clear hq
     have hI:Is (q ++ ⟨#[255]⟩) (sbody ((j + 3:Nat):Int) ++ [255]):=by
      have:=(Is.self q).append (Is.mk [255])
      rw [HQD.out] at this
      exact this
     by_cases he:r.data.toList = sbody ((j + 3:Nat):Int) ++ [255]
     ·have hd:(r.toList == (q ++ ⟨#[255]⟩:ByteArray).toList) = true:=by
       have:r = q ++ ⟨#[255]⟩:=((str_eq _ _).2 he).trans hI.symm
       rw [this]; simp
      have HE:=hide he
      clear he hI
      go_wp2
      (try simp only [Exit.inBlock,Exit.then])
      refine bodyPost_ret (results_hrd2 rfl _ _ w.heap.size rfl (HrdAt.all HH5.out)) rfl ?_
      refine ⟨.none (j + 3),_,rfl,Or.inr ⟨?_,Or.inl ⟨by omega,by omega,?_⟩⟩,?_,below_five HW5.out (Nat.le_refl _) _ _ _ _ _⟩
      ·rw [← HR.out.data]; exact HBG.out
      ·rw [← HR.out.data]; exact HE.out
      ·show _ = zHeard (j + 3)
       unfold zHeard
       rw [show ((j + 3:Nat):Int) = 3 + (j:Int) by omega]
     ·have hd:(r.toList == (q ++ ⟨#[255]⟩:ByteArray).toList) = false:=str_no (fun h=>he (by rw [h]; exact hI.data))
      have HE:=hide he
      clear he hI
      go_wp2
      go_round
      case rel=>exact ⟨j + 1,by omega,by go_num,fun m a b=>by
       by_cases hm:m = j + 3
       ·subst hm; exact HE.out
       ·exact HJ.out m a (by omega)⟩
      case measure=>simp [intOf]; omega
    ·have hlt':¬ (j:Int) < 7:=by omega
     go_wp2
     (try simp only [Exit.inBlock,Exit.then])
     refine bodyPost_ret (results_hrd2 rfl _ _ w.heap.size rfl (HrdAt.all HH5.out)) rfl ?_
     refine ⟨.none 0,_,rfl,Or.inr ⟨?_,Or.inr ⟨rfl,fun m a b=>?_⟩⟩,rfl,below_five HW5.out (Nat.le_refl _) _ _ _ _ _⟩
     ·rw [← HR.out.data]; exact HBG.out
     ·rw [← HR.out.data]; exact HJ.out m a (by omega)
 ·have hsz':¬ (1:Int) < (r.size:Int):=by omega
  clear x1 x2 hbg
  go_wp2_with fail
  refine (shorts_any _).mono ?_
  rintro e w1 ⟨rfl,hsb,hb1⟩
  rw [hz1] at hsb
  have hH5:=HH.out.below hb1 (by omega)
  obtain ⟨c0,c1,c2,c3,c4⟩:=hH5.cell
  have y0:=hH5.free 0
  have y1:=hH5.free 1
  have y2:=hH5.free 2
  have y3:=hH5.free 3
  have y4:=hH5.free 4
  have HH5:=hide hH5
  have HW5:=hide (HW.out.trans (hb1.mono (by omega)))
  have HSB:=hide hsb
  clear hH5 hb1 hsb
  go_wp2
  go_loop [12] (fun i=>∃ j:Nat,j ≤ 7 ∧ i = .int .i64 j ∧ Hid (∀ m:Nat,3 ≤ m → m < j + 3 → r.data.toList ≠ sbody m ++ [255])) (fun i=>7 - (intOf i).toNat)
  case atStart=>exact ⟨0,by omega,rfl,fun m a b=>by omega⟩
  case round =>
   obtain ⟨j,hj,rfl,HJ⟩:=hrel
   by_cases hlt:j < 7
   ·have hlt':(j:Int) < 7:=by omega
    have hcl:w1.cell? ⟨w.heap.size + 1,j,none⟩ = some (.string (shortsL.getD j ByteArray.empty)):=by
     rw [cell_of_row _ _ _ _ _ _ HSB.out]
     simp [List.getElem?_eq_getElem (show j < shortsL.length from hlt),List.getD]
    have hq:=shortsL_at j hlt
    generalize shortsL.getD j ByteArray.empty = q at *
    have hqz:=hq.2
    have HQD:=hide hq.1
    clear hq
    have hI:Is (q ++ ⟨#[255]⟩) (sbody ((j + 3:Nat):Int) ++ [255]):=by
     have:=(Is.self q).append (Is.mk [255])
     rw [HQD.out] at this
     exact this
    by_cases he:r.data.toList = sbody ((j + 3:Nat):Int) ++ [255]
    ·have hd:(r.toList == (q ++ ⟨#[255]⟩:ByteArray).toList) = true:=by
      have:r = q ++ ⟨#[255]⟩:=((str_eq _ _).2 he).trans hI.symm
      rw [this]; simp
     have HE:=hide he
     clear he hI
     go_wp2
     (try simp only [Exit.inBlock,Exit.then])
     refine bodyPost_ret (results_hrd2 rfl _ _ w.heap.size rfl (HrdAt.all HH5.out)) rfl ?_
     refine ⟨.none (j + 3),_,rfl,Or.inr ⟨?_,Or.inl ⟨by omega,by omega,?_⟩⟩,?_,below_five HW5.out (Nat.le_refl _) _ _ _ _ _⟩
     ·rw [← HR.out.data]; exact HBG.out
     ·rw [← HR.out.data]; exact HE.out
     ·show _ = zHeard (j + 3)
      unfold zHeard
      rw [show ((j + 3:Nat):Int) = 3 + (j:Int) by omega]
    ·have hd:(r.toList == (q ++ ⟨#[255]⟩:ByteArray).toList) = false:=str_no (fun h=>he (by rw [h]; exact hI.data))
     have HE:=hide he
     clear he hI
     go_wp2
     go_round
     case rel=>exact ⟨j + 1,by omega,by go_num,fun m a b=>by
      by_cases hm:m = j + 3
      ·subst hm; exact HE.out
      ·exact HJ.out m a (by omega)⟩
     case measure=>simp [intOf]; omega
   ·have hlt':¬ (j:Int) < 7:=by omega
    go_wp2
    (try simp only [Exit.inBlock,Exit.then])
    refine bodyPost_ret (results_hrd2 rfl _ _ w.heap.size rfl (HrdAt.all HH5.out)) rfl ?_
    refine ⟨.none 0,_,rfl,Or.inr ⟨?_,Or.inr ⟨rfl,fun m a b=>?_⟩⟩,rfl,below_five HW5.out (Nat.le_refl _) _ _ _ _ _⟩
    ·rw [← HR.out.data]; exact HBG.out
    ·rw [← HR.out.data]; exact HJ.out m a (by omega)
theorem refRead_any (s:ByteArray) (kk:Int) (w:World) (hs:s.size ≤ 140737488352000) (hk:kk = 0 ∨ kk = 1) :
  Calls Tryz.prog 48 #[.string s,.int .i64 kk] w fun e w'=>ReadPost kk s.data.toList w e w':=by
 by_cases h:Prs.restL s.data.toList = []
 ·exact refRead_nil s kk w hs hk h
 ·cases hb:begins (Prs.restL s.data.toList)
  ·exact refRead_not s kk w hs hk ⟨h,hb⟩
  ·exact refRead_beg s kk w hs hk ⟨h,hb⟩
end Go.Proofs.YtlbpjcphhocdkaaGreat
