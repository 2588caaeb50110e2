/- The station says its last yes; a block's text. The station receives a block. What a station does in a tick: Receiving, and all of it. What a station does in a tick, whole. -/
import Derived.Test.YtlbpjcphhocdkaaGreatQ06
import Derived.Test.YtlbpjcphhocdkaaGreatQ07
set_option maxRecDepth 1000000
set_option maxHeartbeats 16000000
namespace Go.Proofs.YtlbpjcphhocdkaaGreat
open Go.RowKit Go.Proofs.YtlbpjcphhocdkaaGreat.Mod Go.Proofs.YtlbpjcphhocdkaaGreat.Pst
theorem putYes_any (F:Nat → Prop) (b o:Nat) (s:PS) (w:World) (h:StAt w F b o s) (hy:s.yes = 7 ∨ s.yes = 8) :
  Calls Tryz.prog 130 #[.pointer (some ⟨b,o,none⟩)] w fun e w'=>Does w F b o (putYes s) e w':=by
 have hlt:=h.lt
 have c3:=h.busy
 have c14:=h.yes
 have H:=hide h
 have HY:Hid (3 ≤ s.yes ∧ s.yes ≤ 9):=by unfold Hid; omega
 clear h hy
 cases hb:s.busy
 ·have HE:Hid (putYes s = putShort s.yes s):=by simp [Hid,putYes,hb]
  rw [hb] at c3
  go_enter Tryz.func130,Tryz.ntmps130
  go_wp2_with fail
  refine (putShort_any F b o s s.yes _ H.out HY.out).mono ?_
  rintro e w1 ⟨rfl,h1,b1⟩
  go_wp2
  go_end0
  rw [HE.out]
  exact ⟨rfl,h1,b1⟩
 ·have HE:Hid (putYes s = putShort 9 s):=by simp [Hid,putYes,hb]
  rw [hb] at c3
  go_enter Tryz.func130,Tryz.ntmps130
  go_wp2_with fail
  refine (putShort_any F b o s 9 _ H.out (by omega)).mono ?_
  rintro e w1 ⟨rfl,h1,b1⟩
  go_wp2
  go_end0
  rw [HE.out]
  exact ⟨rfl,h1,b1⟩
theorem flat_take (l:List ByteArray) (k:Nat) (h:k < l.length):((datas l).take (k + 1)).flatten = ((datas l).take k).flatten ++ (l.getD k ByteArray.empty).data.toList:=by
 rw [List.take_add_one,List.getElem?_eq_getElem (by rw [datas_length]; exact h)]
 simp [datas,List.getD,List.getElem?_eq_getElem h]
theorem flat_len (l:List ByteArray) (hs:∀ i,(l.getD i ByteArray.empty).size ≤ 32):∀ k,k ≤ l.length → ((datas l).take k).flatten.length ≤ k * 32
 | 0,_=>by simp
 | k + 1,h=>by
  rw [flat_take l k (by omega),List.length_append,size_list]
  have:=flat_len l hs k (by omega)
  have:=hs k
  omega
set_option maxRecDepth 1000000 in
theorem textOf_any (a:Option Addr) (l:List ByteArray) (cap:Nat) (w:World) (hn:1 ≤ l.length ∧ l.length ≤ 4) (hs:∀ i,(l.getD i ByteArray.empty).size ≤ 32) (ht:Texts w a l) :
  Calls Tryz.prog 143 #[.slice a l.length cap] w fun e w'=>e = .returned (.string ⟨(datas l).flatten.toArray⟩) ∧ w' = w:=by
 obtain ⟨g,of,rfl,hc⟩:∃ g of,a = some ⟨g,of,none⟩ ∧ ∀ i,i < l.length → w.cell? ⟨g,of + i,none⟩ = some (.string (l.getD i ByteArray.empty)):=by
  rcases ht with h | h
  ·subst h; simp at hn
  ·exact h
 have HC:=hide hc
 have HS:=hide hs
 have hn4:=hn.2
 have HFL:=hide (flat_len l hs)
 clear hc hs ht hn
 go_enter Tryz.func143,Tryz.ntmps143
 go_wp2
 go_loopw [3,4] (fun x i wr=>∃ (k:Nat) (xs:ByteArray),k ≤ l.length ∧ i = .int .i64 k ∧ x = .string xs ∧ Hid (Is xs ((datas l).take k).flatten) ∧ wr = w) (fun _ i _=>l.length - (intOf i).toNat)
 case atStart=>exact ⟨0,_,by omega,rfl,rfl,Is.mk _,rfl⟩
 case round =>
  obtain ⟨k,xs,hk,rfl,rfl,HX,rfl⟩:=hrel
  by_cases hlt:k < l.length
  ·have hlt':(k:Int) < (l.length:Int):=by omega
   have hcell:=HC.out k hlt
   have hst:=HS.out k
   have HT:=hide (flat_take l k hlt)
   have hxs:xs.size ≤ 128:=by
    rw [HX.out.size]
    have:=HFL.out k (by omega)
    omega
   generalize l.getD k ByteArray.empty = st at *
   go_wp2
   go_roundw
   case rel=>exact ⟨k + 1,_,by omega,by go_num,rfl,by rw [Hid,HT.out]; exact HX.out.append (Is.self st),trivial⟩
   case measure=>simp [intOf]; omega
  ·obtain rfl:k = l.length:=by omega
   have hlt':¬ (l.length:Int) < (l.length:Int):=by omega
   have HT:Hid ((datas l).take l.length = datas l):=List.take_of_length_le (by rw [datas_length]; exact Nat.le_refl _)
   go_wp2
   go_ret
   have e:=HX.out
   rw [HT.out] at e
   unfold Is at e
   exact ⟨by rw [e]; rfl,rfl⟩
/-- A block as a value: its texts lie in memory. -/
def BkV (w:World) (x:Value) (bk:Bk):Prop :=
 ∃ a cap lb,x = .agg #[.string ⟨bk.head.toArray⟩,.slice a (List.length lb) cap,.bool bk.clear,.bool bk.last] ∧ Texts w a lb ∧ datas lb = bk.parts ∧ Blk.berr bk.head bk.parts bk.clear = 0
theorem Bes.tx {w w':World} {b o:Nat} {a:Option Addr} {l:List ByteArray} (h:Texts w a l) (k:Bes b o w w') (hn:∀ g of,a = some ⟨g,of,none⟩ → l ≠ [] → g ≠ b):Texts w' a l:=by
 rcases h with h | ⟨g,of,e,h⟩
 ·exact Or.inl h
 ·by_cases hl:l = []
  ·exact Or.inl hl
  ·refine Or.inr ⟨g,of,e,fun i hi=>?_⟩
   have h1:=h i hi
   have hlt:=World.block_lt_of_cell? w _ h1
   rw [← h1]
   exact World.cell?_of_block (k.block g hlt (hn g of e hl))
theorem EvAt.drew' {w:World} {g:Nat} {v0 v1 v2 v3 v4 v5:Value} (h:EvAt w g v0 v1 v2 v3 v4 v5):EvAt w.drew g v0 v1 v2 v3 v4 v5:=h
theorem str_app (l r:List UInt8):(⟨l.toArray⟩:ByteArray) ++ ⟨r.toArray⟩ = ⟨(l ++ r).toArray⟩:=ba_append l r
set_option maxRecDepth 1000000 in
theorem receive_any (F:Nat → Prop) (b o:Nat) (s:PS) (bk:Bk) (x:Value) (w:World) (h:StAt w F b o s) (hF:∀ x,F x → x < w.heap.size) (hx:BkV w x bk) (hy:s.yes = 7 ∨ s.yes = 8) (hh:s.head.length ≤ 8) (ht:s.text.length ≤ 200) :
  Calls Tryz.prog 128 #[.pointer (some ⟨b,o,none⟩),x] w fun e w'=>Tells w F b o (receive bk s) e w':=by
 obtain ⟨a,cap,lb,rfl,htx,hd,hok⟩:=hx
 obtain ⟨g1,g2,g3,g4⟩:=Blk.berr_ok hok
 have hbh:bk.head.length ≤ 8:=Blk.headOk_le g1
 have hlb:1 ≤ lb.length ∧ lb.length ≤ 4:=by rw [← datas_length,hd]; exact ⟨g2,g3⟩
 have hls:∀ i,(lb.getD i ByteArray.empty).size ≤ 32:=getD_le (by rw [hd]; exact Blk.parts_le g4)
 have hfl:bk.parts.flatten.length ≤ 128:=by
  have:=flat_len lb hls lb.length (Nat.le_refl _)
  rw [List.take_of_length_le (by rw [datas_length]; exact Nat.le_refl _),hd] at this
  omega
 have hlt:=h.lt
 have hne:b ≠ w.heap.size:=by omega
 have hne1:b ≠ w.heap.size + 1:=by omega
 have HN:=hide h.nb
 have HR:Hid (StAt ((w.alloc (.cells #[.string ⟨bk.head.toArray⟩,.slice a lb.length cap,.bool bk.clear,.bool bk.last] 57)).alloc (.cells zeroEv 62)) F b o s ∧ Bes b o w ((w.alloc (.cells #[.string ⟨bk.head.toArray⟩,.slice a lb.length cap,.bool bk.clear,.bool bk.last] 57)).alloc (.cells zeroEv 62))
   ∧ BlkAt ((w.alloc (.cells #[.string ⟨bk.head.toArray⟩,.slice a lb.length cap,.bool bk.clear,.bool bk.last] 57)).alloc (.cells zeroEv 62)) w.heap.size (.string ⟨bk.head.toArray⟩) (.slice a lb.length cap) (.bool bk.clear) (.bool bk.last)
   ∧ Ev0 ((w.alloc (.cells #[.string ⟨bk.head.toArray⟩,.slice a lb.length cap,.bool bk.clear,.bool bk.last] 57)).alloc (.cells zeroEv 62)) (w.heap.size + 1)
   ∧ Texts ((w.alloc (.cells #[.string ⟨bk.head.toArray⟩,.slice a lb.length cap,.bool bk.clear,.bool bk.last] 57)).alloc (.cells zeroEv 62)) a lb) :=
  ⟨(h.alloc _).alloc _,((Bes.refl b o w).alloc hlt _).alloc (by simp; omega) _,(BlkAt.at rfl _ _ _ _).below ((Below.refl _ _).alloc (Nat.le_refl _) _) (by simp),EvAt.new (by simp) _ _ _ _ _ _,htx.below (Below.allocN (Below.allocN (Below.refl _ _) _) _)⟩
 have HTO:Hid (∀ W,Texts W a lb → Calls Tryz.prog 143 #[.slice a lb.length cap] W fun e w'=>e = .returned (.string ⟨bk.parts.flatten.toArray⟩) ∧ w' = W):=fun W hW=>by
  have:=textOf_any a lb cap W hlb hls hW
  rw [hd] at this
  exact this
 have HY:=hide hy
 have a1:∀ W,(Op.stringOp .add ⟨s.head.toArray⟩ ⟨bk.head.toArray⟩).run Tryz.prog W = .ok (.string ⟨(s.head ++ bk.head).toArray⟩) W:=fun W=>by
  rw [← str_app]
  exact run_string_add_sum W _ _ (by show s.head.length + bk.head.length ≤ _; omega)
 have a2:∀ W,(Op.stringOp .add ⟨s.text.toArray⟩ ⟨bk.parts.flatten.toArray⟩).run Tryz.prog W = .ok (.string ⟨(s.text ++ bk.parts.flatten).toArray⟩) W:=fun W=>by
  rw [← str_app]
  exact run_string_add_sum W _ _ (by show s.text.length + bk.parts.flatten.length ≤ _; omega)
 have hlh:(⟨(s.head ++ bk.head).toArray⟩:ByteArray).size = (s.head ++ bk.head).length:=rfl
 have hlt2:(⟨(s.text ++ bk.parts.flatten).toArray⟩:ByteArray).size = (s.text ++ bk.parts.flatten).length:=rfl
 have hHl:(s.head ++ bk.head).length ≤ 1000:=by simp; omega
 have hTl:(s.text ++ bk.parts.flatten).length ≤ 1000:=by simp only [List.length_append]; omega
 clear h htx hd hok g1 g2 g3 g4 hlb hls hy
 go_enter Tryz.func128,Tryz.ntmps128
 go_wp2_with fail
 refine wp_at (fun W=>StAt W F b o s ∧ Bes b o w W ∧ BlkAt W w.heap.size (.string ⟨bk.head.toArray⟩) (.slice a lb.length cap) (.bool bk.clear) (.bool bk.last) ∧ Ev0 W (w.heap.size + 1) ∧ Texts W a lb) HR.out ?_
 rintro W ⟨h0,B0,X0,E0,T0⟩
 have c12:=h0.head
 have p0:=X0.cell0
 have H0:=hide h0
 have BB0:=hide B0
 have XX0:=hide X0
 have EE0:=hide E0
 have TT0:=hide T0
 clear h0 B0 X0 E0 T0 HR
 go_quiet (fail)
 go_wp2_with fail
 refine wp_at (fun W=>StAt W F b o s ∧ Bes b o w W ∧ BlkAt W w.heap.size (.string ⟨bk.head.toArray⟩) (.slice a lb.length cap) (.bool bk.clear) (.bool bk.last) ∧ Ev0 W (w.heap.size + 1) ∧ Texts W a lb) ⟨H0.out.drewN _,BB0.out.drewN _,XX0.out,EE0.out.drewN _,TT0.out.below (below_drewN (Below.refl _ _) _)⟩ ?_
 clear c12 p0 H0 BB0 XX0 EE0 TT0
 rintro W1 ⟨h0,B0,X0,E0,T0⟩
 have c13:=h0.text
 have p1:=X0.cell1
 have H0:=hide h0
 have BB0:=hide B0
 have XX0:=hide X0
 have EE0:=hide E0
 have TT0:=hide T0
 clear h0 B0 X0 E0 T0
 go_quiet ((go_at_call 143; exact Calls.quiet_of_same (HTO.out _ (TT0.out.below (below_drewN (Below.refl _ _) _)))))
 refine exit_at (fun W=>StAt W F b o s ∧ Bes b o w W ∧ BlkAt W w.heap.size (.string ⟨bk.head.toArray⟩) (.slice a lb.length cap) (.bool bk.clear) (.bool bk.last) ∧ Ev0 W (w.heap.size + 1)) ⟨H0.out.drewN _,BB0.out.drewN _,XX0.out,EE0.out.drewN _⟩ ?_
 clear c13 p1 H0 BB0 XX0 EE0 TT0 a1 a2
 rintro W2 ⟨h0,B0,X0,E0⟩
 have HR:Hid (receive bk s = if (s.head ++ bk.head).length > 8 ∨ (s.text ++ bk.parts.flatten).length > 200 then (putShort 6 s,none) else if bk.last then ({ putYes { s with head:=s.head ++ bk.head,text:=s.text ++ bk.parts.flatten,yes:=otherYes s.yes } with head:=[],text:=[] },some ⟨1,s.side,0,⟨s.head ++ bk.head,s.text ++ bk.parts.flatten,bk.clear⟩⟩) else (putYes { s with head:=s.head ++ bk.head,text:=s.text ++ bk.parts.flatten,yes:=otherYes s.yes },none)):=rfl
 generalize s.head ++ bk.head = NH at *
 generalize s.text ++ bk.parts.flatten = NT at *
 have H0:=hide h0
 have BB0:=hide B0
 have XX0:=hide X0
 have EE0:=hide E0
 have hz:=E0.lt
 clear h0 B0 X0 E0
 by_cases hbig:NH.length > 8 ∨ NT.length > 200
 ·have HE:Hid (receive bk s = (putShort 6 s,none)):=by rw [Hid,HR.out,if_pos hbig]
  by_cases h8:NH.length > 8
  ·have d8:(8:Int) < (NH.length:Int):=by omega
   go_wp2_with fail
   refine (putShort_any F b o s 6 _ H0.out (by omega)).mono ?_
   rintro e w3 ⟨rfl,HX,BX⟩
   have HV4:=hide (Ev0.bes EE0.out BX hne1)
   have HB4:=hide (BB0.out.trans BX)
   obtain ⟨⟨x0,x1,x2,x3,x4,x5⟩,q0,q1,q2,q3,q4,q5⟩:=HV4.out.all
   have H4:=hide HX
   clear HX BX
   go_wp2
   (try simp only [Exit.inBlock,Exit.then])
   refine bodyPost_ret (results_ev rfl _ _ (w.heap.size + 1) rfl (EvAt.all HV4.out)) rfl ?_
   rw [HE.out]
   exact ⟨rfl,ev_end H4.out HB4.out (fun _=>Or.inl) (own_ne hF (by omega)) (by omega) hlt HN.out _ _ _ _ _ _⟩
  ·have d8:¬ (8:Int) < (NH.length:Int):=by omega
   have d200:(200:Int) < (NT.length:Int):=by omega
   go_wp2_with fail
   refine (putShort_any F b o s 6 _ H0.out (by omega)).mono ?_
   rintro e w3 ⟨rfl,HX,BX⟩
   have HV4:=hide (Ev0.bes EE0.out BX hne1)
   have HB4:=hide (BB0.out.trans BX)
   obtain ⟨⟨x0,x1,x2,x3,x4,x5⟩,q0,q1,q2,q3,q4,q5⟩:=HV4.out.all
   have H4:=hide HX
   clear HX BX
   go_wp2
   (try simp only [Exit.inBlock,Exit.then])
   refine bodyPost_ret (results_ev rfl _ _ (w.heap.size + 1) rfl (EvAt.all HV4.out)) rfl ?_
   rw [HE.out]
   exact ⟨rfl,ev_end H4.out HB4.out (fun _=>Or.inl) (own_ne hF (by omega)) (by omega) hlt HN.out _ _ _ _ _ _⟩
 ·have d8:¬ (8:Int) < (NH.length:Int):=by omega
  have d200:¬ (200:Int) < (NT.length:Int):=by omega
  have HE1:Hid (receive bk s = if bk.last then ({ putYes { s with head:=NH,text:=NT,yes:=otherYes s.yes } with head:=[],text:=[] },some ⟨1,s.side,0,⟨NH,NT,bk.clear⟩⟩) else (putYes { s with head:=NH,text:=NT,yes:=otherYes s.yes },none)):=by rw [Hid,HR.out,if_neg hbig]
  clear hbig HR
  have c12:=H0.out.head
  have c13:=H0.out.text
  have c14:=H0.out.yes
  have f12:=H0.out.fz (o + 12)
  have f13:=H0.out.fz (o + 13)
  have f14:=H0.out.fz (o + 14)
  go_wp2_with fail
  refine (otherYes_any s.yes _ (by have:=HY.out; omega)).mono ?_
  rintro e w3 ⟨rfl,hw3⟩
  obtain rfl:=hw3.symm
  generalize hoy:otherYes s.yes = OY at *
  have hOY:OY = 7 ∨ OY = 8:=by rw [← hoy]; unfold otherYes; split <;> omega
  clear hoy
  go_wp2_with fail
  refine (putYes_any F b o _ _ (((H0.out.head' NH).text' NT).yes' OY) hOY).mono ?_
  rintro e w3 ⟨rfl,h3,b3⟩
  have BX:=((((Bes.refl b o W2).set 12 (by omega) (.string ⟨NH.toArray⟩)).set 13 (by omega) (.string ⟨NT.toArray⟩)).set 14 (by omega) (.int .i64 OY)).trans b3
  have X3:BlkAt w3 w.heap.size (.string ⟨bk.head.toArray⟩) (.slice a lb.length cap) (.bool bk.clear) (.bool bk.last):=(BX.block w.heap.size (lt_of_block XX0.out) hne.symm).trans XX0.out
  have p3:=X3.cell3
  have p2:=X3.cell2
  clear c12 c13 c14 f12 f13 f14 b3 X3
  cases hla:bk.last
  ·have HE:Hid (receive bk s = (putYes { s with head:=NH,text:=NT,yes:=OY },none)):=by rw [Hid,HE1.out,hla]; rfl
   rw [hla] at p3
   have HX:=h3
   clear h3 HE1 hla
   have HV4:=hide (Ev0.bes EE0.out BX hne1)
   have HB4:=hide (BB0.out.trans BX)
   obtain ⟨⟨x0,x1,x2,x3,x4,x5⟩,q0,q1,q2,q3,q4,q5⟩:=HV4.out.all
   have H4:=hide HX
   clear HX BX
   go_wp2
   (try simp only [Exit.inBlock,Exit.then])
   refine bodyPost_ret (results_ev rfl _ _ (w.heap.size + 1) rfl (EvAt.all HV4.out)) rfl ?_
   rw [HE.out]
   exact ⟨rfl,ev_end H4.out HB4.out (fun _=>Or.inl) (own_ne hF (by omega)) (by omega) hlt HN.out _ _ _ _ _ _⟩
  ·have HE:Hid (receive bk s = ({ putYes { s with head:=NH,text:=NT,yes:=OY } with head:=[],text:=[] },some ⟨1,s.side,0,⟨NH,NT,bk.clear⟩⟩)):=by rw [Hid,HE1.out,hla]; rfl
   rw [hla] at p3
   have HP3:=hide h3
   have e3:(putYes { s with head:=NH,text:=NT,yes:=OY }).yes = OY ∧ (putYes { s with head:=NH,text:=NT,yes:=OY }).side = s.side:=by unfold putYes; split <;> exact ⟨rfl,rfl⟩
   have c0:=h3.side
   have c12:=h3.head
   have c13:=h3.text
   have c14:=h3.yes
   have f12:=h3.fz (o + 12)
   have f13:=h3.fz (o + 13)
   have f14:=h3.fz (o + 14)
   rw [e3.1] at c14
   rw [e3.2] at c0
   have HV4:=hide (Ev0.bes EE0.out BX hne1)
   have HB4:=hide (BB0.out.trans BX)
   obtain ⟨⟨x0,x1,x2,x3,x4,x5⟩,q0,q1,q2,q3,q4,q5⟩:=HV4.out.all
   have hlt3:=h3.lt
   have HE3:=hide e3
   clear h3 HE1 hla BX e3
   generalize putYes { s with head:=NH,text:=NT,yes:=OY } = PY at *
   go_wp2_with fail
   refine wp_at (fun W=>StAt W F b o { PY with head:=[],text:=[],yes:=OY } ∧ Bes b o w W ∧ Ev0 W (w.heap.size + 1) ∧ MsAt W w3.heap.size ⟨NH,NT,bk.clear⟩) ⟨(((HP3.out.head' []).text' []).yes' OY).alloc _,(((HB4.out.set 12 (by omega) _).set 13 (by omega) _).set 14 (by omega) _).alloc (by simpa using hlt3) _,?_,MsAt.at (by simp) ⟨NH,NT,bk.clear⟩⟩ ?_
   ·exact EvAt.alloc (EvAt.bes HV4.out ((((Bes.refl b o w3).set 12 (by omega) _).set 13 (by omega) _).set 14 (by omega) _) hne1) _
   clear c0 c12 c13 c14 f12 f13 f14 x0 x1 x2 x3 x4 x5 q0 q1 q2 q3 q4 q5 p2 p3
   rintro W4 ⟨h4,b4,e4,m4⟩
   have c0:=h4.side
   have hsd:PY.side = s.side:=HE3.out.2
   simp only [hsd] at c0
   obtain ⟨m0,m1,m2⟩:=m4.cells
   simp only at m0 m1 m2
   obtain ⟨⟨x0,x1,x2,x3,x4,x5⟩,q0,q1,q2,q3,q4,q5⟩:=e4.all
   have HV5:=hide e4
   have HB5:=hide b4
   have H5:=hide h4
   have HYY:Hid (({ PY with head:=[],text:=[],yes:=OY }:PS) = { PY with head:=[],text:=[] }):=by
    have:=HE3.out.1
    unfold Hid
    rw [← this]
   clear h4 b4 e4 m4 hsd
   go_region
   go_wp2
   (try simp only [Exit.inBlock,Exit.then])
   refine bodyPost_ret (results_ev rfl _ _ (w.heap.size + 1) rfl (EvAt.drew' (EvAt.all HV5.out))) rfl ?_
   rw [HE.out]
   rw [HYY.out] at H5
   have kk:=ev_end (g:=w.heap.size + 1) H5.out HB5.out (fun _=>Or.inl) (own_ne hF (by omega)) (by omega) hlt HN.out (.int .i64 1) (.int .i64 s.side) (.int .i64 0) (.string ⟨NH.toArray⟩) (.string ⟨NT.toArray⟩) (.bool bk.clear)
   exact ⟨rfl,kk.1.drew,kk.2.drew⟩
/-- What is heard,as a value; its texts lie in memory,none of them in the block b. -/
def HrdV (w:World) (b:Nat) (x:Value):Ans → Prop
 | .data h ps c t=>∃ a cap lb,x = .agg #[.int .i64 2,.string ⟨h.toArray⟩,.slice a (List.length lb) cap,.bool c,.bool t] ∧ Texts w a lb ∧ (∀ g of,a = some ⟨g,of,none⟩ → lb ≠ [] → g ≠ b) ∧ datas lb = ps ∧ Blk.berr h ps c = 0
 | .none n=>x = zHeard n ∧ n ≠ 2
theorem HrdV.below {w w':World} {b:Nat} {x:Value} {A:Ans} (h:HrdV w b x A) (k:Below w.heap.size w w'):HrdV w' b x A:=by
 cases A with
 | data h1 ps1 c1 t1 =>
  obtain ⟨a,cap,lb,e1,e2,e3⟩:=h
  exact ⟨a,cap,lb,e1,e2.below k,e3⟩
 | none n=>exact h
theorem HrdV.bes {w w':World} {b o:Nat} {x:Value} {A:Ans} (h:HrdV w b x A) (k:Bes b o w w'):HrdV w' b x A:=by
 cases A with
 | data h1 ps1 c1 t1 =>
  obtain ⟨a,cap,lb,e1,e2,e3,e4⟩:=h
  exact ⟨a,cap,lb,e1,Bes.tx e2 k e3,e3,e4⟩
 | none n=>exact h
theorem HrdAt.at {w:World} {g:Nat} (hg:w.heap.size = g) (n h v c t:Value):HrdAt (w.alloc (.cells #[n,h,v,c,t] 98)) g n h v c t:=by subst hg; exact heap_alloc_new w _
theorem HrdAt.bes {w w':World} {b o g:Nat} {n h v c t:Value} (x:HrdAt w g n h v c t) (k:Bes b o w w') (hb:b ≠ g):HrdAt w' g n h v c t:=(k.block g (lt_of_block x) hb.symm).trans x
set_option maxRecDepth 1000000 in
theorem actReceiving_any (F:Nat → Prop) (b o:Nat) (s:PS) (A:Ans) (x:Value) (c:Cfg) (w:World) (h:StAt w F b o s) (hF:∀ x,F x → x < w.heap.size) (hx:HrdV w b x A) (hp:PSOk c s) (hm:s.mode = 3) :
  Calls Tryz.prog 106 #[.pointer (some ⟨b,o,none⟩),x,cfgV c] w fun e w'=>Tells w F b o (actReceiving A c s) e w':=by
 have hlt:=h.lt
 have hne:b ≠ w.heap.size:=by omega
 have hne1:b ≠ w.heap.size + 1:=by omega
 have hne2:b ≠ w.heap.size + 1 + 1:=by omega
 have HN:=hide h.nb
 obtain ⟨hy,hh,ht⟩:=hp.rcv hm
 have c6:=h.wait
 have HY:=hide hy
 clear hy hp
 unfold cfgV
 cases A with
 | data hd ps cl la =>
  obtain ⟨a,cap,lb,rfl,e2,e3,e4,e5⟩:=hx
  have HR:Hid (StAt (((w.alloc (.cells #[.int .i64 2,.string ⟨hd.toArray⟩,.slice a lb.length cap,.bool cl,.bool la] 98)).alloc (.cells (cfgCells c) 26)).alloc (.cells zeroEv 62)) F b o s ∧ Bes b o w (((w.alloc (.cells #[.int .i64 2,.string ⟨hd.toArray⟩,.slice a lb.length cap,.bool cl,.bool la] 98)).alloc (.cells (cfgCells c) 26)).alloc (.cells zeroEv 62)) ∧ CfgAt (((w.alloc (.cells #[.int .i64 2,.string ⟨hd.toArray⟩,.slice a lb.length cap,.bool cl,.bool la] 98)).alloc (.cells (cfgCells c) 26)).alloc (.cells zeroEv 62)) (w.heap.size + 1) c ∧ Ev0 (((w.alloc (.cells #[.int .i64 2,.string ⟨hd.toArray⟩,.slice a lb.length cap,.bool cl,.bool la] 98)).alloc (.cells (cfgCells c) 26)).alloc (.cells zeroEv 62)) (w.heap.size + 1 + 1) ∧ HrdAt (((w.alloc (.cells #[.int .i64 2,.string ⟨hd.toArray⟩,.slice a lb.length cap,.bool cl,.bool la] 98)).alloc (.cells (cfgCells c) 26)).alloc (.cells zeroEv 62)) w.heap.size (.int .i64 2) (.string ⟨hd.toArray⟩) (.slice a lb.length cap) (.bool cl) (.bool la)) :=
   ⟨((h.alloc _).alloc _).alloc _,(((Bes.refl b o w).alloc hlt _).alloc (by simp; omega) _).alloc (by simp; omega) _,(CfgAt.at (by simp) c).alloc _,EvAt.new (by simp) _ _ _ _ _ _,((HrdAt.at rfl _ _ _ _ _).alloc _).alloc _⟩
  have hz:w.heap.size + 1 + 1 < (((w.alloc (.cells #[.int .i64 2,.string ⟨hd.toArray⟩,.slice a lb.length cap,.bool cl,.bool la] 98)).alloc (.cells (cfgCells c) 26)).alloc (.cells zeroEv 62)).heap.size:=by simp
  have HZ:=hide hz
  have hBel:Below w.heap.size w (((w.alloc (.cells #[.int .i64 2,.string ⟨hd.toArray⟩,.slice a lb.length cap,.bool cl,.bool la] 98)).alloc (.cells (cfgCells c) 26)).alloc (.cells zeroEv 62)):=Below.allocN (Below.allocN (Below.allocN (Below.refl _ _) _) _) _
  have HBel:=hide hBel
  clear hz hBel
  have HE:Hid (actReceiving (.data hd ps cl la) c s = receive ⟨hd,ps,cl,la⟩ (beginWait c s)):=rfl
  have HT:=hide e2
  have HT3:=hide e3
  have HT4:=hide e4
  have HT5:=hide e5
  clear h e2 e3 e4 e5
  go_enter Tryz.func106,Tryz.ntmps106
  go_wp2_with fail
  refine (beginWait_any F b o s c _ HR.out.1).mono ?_
  rintro e w3 ⟨rfl,h3,b3⟩
  have X3:=HR.out.2.2.2.2.bes b3 hne
  obtain ⟨y0,y1,y2,y3,y4⟩:=X3.cell
  have T3:=hide (Bes.tx (HT.out.below HBel.out) b3 HT3.out)
  have HF3:Hid (∀ x,F x → x < w3.heap.size):=fun x hx=>by have h1:=hF x hx; have h2:=HBel.out.size; have h3:=b3.size; omega
  have hz3:w.heap.size + 1 + 1 < w3.heap.size:=by have h1:=HZ.out; have h2:=b3.size; omega
  have H3:=hide h3
  clear h3 X3
  go_wp2_with fail
  refine (receive_any F b o (beginWait c s) ⟨hd,ps,cl,la⟩ _ _ H3.out HF3.out ⟨a,cap,lb,rfl,T3.out,HT4.out,HT5.out⟩ HY.out hh ht).mono ?_
  rintro e w4 ⟨rfl,h4,b4⟩
  have b5:=b3.trans b4
  have HV4:=hide (Ev0.bes HR.out.2.2.2.1 b5 hne2)
  have HB4:=hide (HR.out.2.1.trans b5)
  have hs3:=(HR.out.2.1.trans b3).size
  obtain ⟨⟨x0,x1,x2,x3,x4,x5⟩,q0,q1,q2,q3,q4,q5⟩:=HV4.out.all
  have H4:=hide h4
  obtain ⟨ek,est,en,eh,et,ec,hev⟩:=evV_form (receive ⟨hd,ps,cl,la⟩ (beginWait c s)).2
  have HEV:=hide hev
  rw [hev]
  clear h4 b4 b5 b3 hev y0 y1 y2 y3 y4
  go_wp2
  (try simp only [Exit.inBlock,Exit.then])
  refine bodyPost_ret (results_ev rfl _ _ (w.heap.size + 1 + 1) rfl (EvAt.all HV4.out)) rfl ?_
  rw [HE.out]
  exact ⟨by rw [HEV.out],ev_end H4.out HB4.out (Plus.sub hs3) (plus_ne hF (by omega) hz3) (by omega) hlt HN.out _ _ _ _ _ _⟩
 | none n =>
  obtain ⟨rfl,n2⟩:=hx
  unfold zHeard
  have HR:Hid (StAt (((w.alloc (.cells #[.int .i64 n,.string ⟨#[]⟩,.slice none 0 0,.bool false,.bool false] 98)).alloc (.cells (cfgCells c) 26)).alloc (.cells zeroEv 62)) F b o s ∧ Bes b o w (((w.alloc (.cells #[.int .i64 n,.string ⟨#[]⟩,.slice none 0 0,.bool false,.bool false] 98)).alloc (.cells (cfgCells c) 26)).alloc (.cells zeroEv 62)) ∧ CfgAt (((w.alloc (.cells #[.int .i64 n,.string ⟨#[]⟩,.slice none 0 0,.bool false,.bool false] 98)).alloc (.cells (cfgCells c) 26)).alloc (.cells zeroEv 62)) (w.heap.size + 1) c ∧ Ev0 (((w.alloc (.cells #[.int .i64 n,.string ⟨#[]⟩,.slice none 0 0,.bool false,.bool false] 98)).alloc (.cells (cfgCells c) 26)).alloc (.cells zeroEv 62)) (w.heap.size + 1 + 1) ∧ HrdAt (((w.alloc (.cells #[.int .i64 n,.string ⟨#[]⟩,.slice none 0 0,.bool false,.bool false] 98)).alloc (.cells (cfgCells c) 26)).alloc (.cells zeroEv 62)) w.heap.size (.int .i64 n) (.string ⟨#[]⟩) (.slice none 0 0) (.bool false) (.bool false)) :=
   ⟨((h.alloc _).alloc _).alloc _,(((Bes.refl b o w).alloc hlt _).alloc (by simp; omega) _).alloc (by simp; omega) _,(CfgAt.at (by simp) c).alloc _,EvAt.new (by simp) _ _ _ _ _ _,((HrdAt.at rfl _ _ _ _ _).alloc _).alloc _⟩
  have hz:w.heap.size + 1 + 1 < (((w.alloc (.cells #[.int .i64 n,.string ⟨#[]⟩,.slice none 0 0,.bool false,.bool false] 98)).alloc (.cells (cfgCells c) 26)).alloc (.cells zeroEv 62)).heap.size:=by simp
  have HZ:=hide hz
  have hBel:Below w.heap.size w (((w.alloc (.cells #[.int .i64 n,.string ⟨#[]⟩,.slice none 0 0,.bool false,.bool false] 98)).alloc (.cells (cfgCells c) 26)).alloc (.cells zeroEv 62)):=Below.allocN (Below.allocN (Below.allocN (Below.refl _ _) _) _) _
  have HBel:=hide hBel
  clear hz hBel
  clear h
  have c6x:∀ (x y z:Obj),(((w.alloc x).alloc y).alloc z).cell? ⟨b,o + 6,none⟩ = some (.int .i64 s.wait):=fun x y z=>by
   rw [World.cell?_alloc_lt _ _ _ (by simp; omega),World.cell?_alloc_lt _ _ _ (by simp; omega),World.cell?_alloc_lt _ _ _ hlt]
   exact c6
  clear c6
  have d2:((n:Int) == 2) = false:=by simp; omega
  by_cases n1:n = 1
  ·have d1:((n:Int) == 1) = true:=by simp [n1]
   have HE:Hid (actReceiving (.none n) c s = (beginWait c (putShort 6 s),none)):=by simp [Hid,actReceiving,n1]
   clear n1
   go_enter Tryz.func106,Tryz.ntmps106
   go_wp2_with fail
   refine (putShort_any F b o s 6 _ HR.out.1 (by omega)).mono ?_
   rintro e w3 ⟨rfl,h3,b3⟩
   have C3:=hide (HR.out.2.2.1.bes b3 hne1)
   have H3:=hide h3
   have hlt3:=h3.lt
   obtain ⟨k0,k1,k2,k3,k4,k5,k6,k7,k8,k9⟩:=C3.out.all
   clear h3
   go_wp2_with fail
   refine (beginWait_any F b o _ c _ H3.out).mono ?_
   rintro e w4 ⟨rfl,h4,b4⟩
   have b5:=b3.trans b4
   clear k0 k1 k2 k3 k4 k5 k6 k7 k8 k9 b3 b4
   have HV4:=hide (Ev0.bes HR.out.2.2.2.1 b5 hne2)
   have HB4:=hide (HR.out.2.1.trans b5)
   obtain ⟨⟨x0,x1,x2,x3,x4,x5⟩,q0,q1,q2,q3,q4,q5⟩:=HV4.out.all
   have H4:=hide h4
   clear h4 b5
   go_wp2
   (try simp only [Exit.inBlock,Exit.then])
   refine bodyPost_ret (results_ev rfl _ _ (w.heap.size + 1 + 1) rfl (EvAt.all HV4.out)) rfl ?_
   rw [HE.out]
   exact ⟨rfl,ev_end H4.out HB4.out (fun _=>Or.inl) (own_ne hF (by omega)) (by omega) hlt HN.out _ _ _ _ _ _⟩
  ·have d1:((n:Int) == 1) = false:=by simp; omega
   by_cases n4:n = 4
   ·have d4:((n:Int) == 4) = true:=by simp [n4]
    have HE:Hid (actReceiving (.none n) c s = (beginWait c (putYes s),none)):=by simp [Hid,actReceiving,n4]
    clear n1 n4
    go_enter Tryz.func106,Tryz.ntmps106
    go_wp2_with fail
    refine (putYes_any F b o s _ HR.out.1 HY.out).mono ?_
    rintro e w3 ⟨rfl,h3,b3⟩
    have C3:=hide (HR.out.2.2.1.bes b3 hne1)
    have H3:=hide h3
    have hlt3:=h3.lt
    obtain ⟨k0,k1,k2,k3,k4,k5,k6,k7,k8,k9⟩:=C3.out.all
    clear h3
    go_wp2_with fail
    refine (beginWait_any F b o _ c _ H3.out).mono ?_
    rintro e w4 ⟨rfl,h4,b4⟩
    have b5:=b3.trans b4
    clear k0 k1 k2 k3 k4 k5 k6 k7 k8 k9 b3 b4
    have HV4:=hide (Ev0.bes HR.out.2.2.2.1 b5 hne2)
    have HB4:=hide (HR.out.2.1.trans b5)
    obtain ⟨⟨x0,x1,x2,x3,x4,x5⟩,q0,q1,q2,q3,q4,q5⟩:=HV4.out.all
    have H4:=hide h4
    clear h4 b5
    go_wp2
    (try simp only [Exit.inBlock,Exit.then])
    refine bodyPost_ret (results_ev rfl _ _ (w.heap.size + 1 + 1) rfl (EvAt.all HV4.out)) rfl ?_
    rw [HE.out]
    exact ⟨rfl,ev_end H4.out HB4.out (fun _=>Or.inl) (own_ne hF (by omega)) (by omega) hlt HN.out _ _ _ _ _ _⟩
   ·have d4:((n:Int) == 4) = false:=by simp; omega
    by_cases n3:n = 3
    ·have d3:((n:Int) == 3) = true:=by simp [n3]
     have HE:Hid (actReceiving (.none n) c s = (answer c s,none)):=by simp [Hid,actReceiving,n3]
     clear n1 n4 n3
     go_enter Tryz.func106,Tryz.ntmps106
     go_wp2_with fail
     refine (answer_any F b o s c _ HR.out.1).mono ?_
     rintro e w4 ⟨rfl,h4,b4⟩
     have HV4:=hide (Ev0.bes HR.out.2.2.2.1 b4 hne2)
     have HB4:=hide (HR.out.2.1.trans b4)
     obtain ⟨⟨x0,x1,x2,x3,x4,x5⟩,q0,q1,q2,q3,q4,q5⟩:=HV4.out.all
     have H4:=hide h4
     clear h4 b4
     go_wp2
     (try simp only [Exit.inBlock,Exit.then])
     refine bodyPost_ret (results_ev rfl _ _ (w.heap.size + 1 + 1) rfl (EvAt.all HV4.out)) rfl ?_
     rw [HE.out]
     exact ⟨rfl,ev_end H4.out HB4.out (fun _=>Or.inl) (own_ne hF (by omega)) (by omega) hlt HN.out _ _ _ _ _ _⟩
    ·have d3:((n:Int) == 3) = false:=by simp; omega
     by_cases n5:n = 5
     ·have d5:((n:Int) == 5) = true:=by simp [n5]
      have HE:Hid (actReceiving (.none n) c s = (becomeIdle s,none)):=by simp [Hid,actReceiving,n5]
      clear n1 n4 n3 n5
      go_enter Tryz.func106,Tryz.ntmps106
      go_wp2_with fail
      refine (becomeIdle_any F b o s _ HR.out.1).mono ?_
      rintro e w4 ⟨rfl,h4,b4⟩
      have HV4:=hide (Ev0.bes HR.out.2.2.2.1 b4 hne2)
      have HB4:=hide (HR.out.2.1.trans b4)
      obtain ⟨⟨x0,x1,x2,x3,x4,x5⟩,q0,q1,q2,q3,q4,q5⟩:=HV4.out.all
      have H4:=hide h4
      clear h4 b4
      go_wp2
      (try simp only [Exit.inBlock,Exit.then])
      refine bodyPost_ret (results_ev rfl _ _ (w.heap.size + 1 + 1) rfl (EvAt.all HV4.out)) rfl ?_
      rw [HE.out]
      exact ⟨rfl,ev_end H4.out HB4.out (fun _=>Or.inl) (own_ne hF (by omega)) (by omega) hlt HN.out _ _ _ _ _ _⟩
     ·have d5:((n:Int) == 5) = false:=by simp; omega
      by_cases hw:s.wait = 0
      ·have dw:((s.wait:Int) == 0) = true:=by simp [hw]
       have HE:Hid (actReceiving (.none n) c s = (becomeIdle s,none)):=by simp [Hid,actReceiving,n1,n4,n3,hw]
       clear n1 n4 n3 n5 hw
       go_enter Tryz.func106,Tryz.ntmps106
       go_wp2_with fail
       refine (becomeIdle_any F b o s _ HR.out.1).mono ?_
       rintro e w4 ⟨rfl,h4,b4⟩
       have HV4:=hide (Ev0.bes HR.out.2.2.2.1 b4 hne2)
       have HB4:=hide (HR.out.2.1.trans b4)
       obtain ⟨⟨x0,x1,x2,x3,x4,x5⟩,q0,q1,q2,q3,q4,q5⟩:=HV4.out.all
       have H4:=hide h4
       clear h4 b4
       go_wp2
       (try simp only [Exit.inBlock,Exit.then])
       refine bodyPost_ret (results_ev rfl _ _ (w.heap.size + 1 + 1) rfl (EvAt.all HV4.out)) rfl ?_
       rw [HE.out]
       exact ⟨rfl,ev_end H4.out HB4.out (fun _=>Or.inl) (own_ne hF (by omega)) (by omega) hlt HN.out _ _ _ _ _ _⟩
      ·have dw:((s.wait:Int) == 0) = false:=by simp; omega
       have HE:Hid (actReceiving (.none n) c s = (s,none)):=by simp [Hid,actReceiving,n1,n4,n3,n5,hw]
       clear n1 n4 n3 n5 hw
       go_enter Tryz.func106,Tryz.ntmps106
       go_wp2
       (try simp only [Exit.inBlock,Exit.then])
       refine bodyPost_ret (results_ev rfl _ _ (w.heap.size + 1 + 1) rfl HR.out.2.2.2.1) rfl ?_
       rw [HE.out]
       exact ⟨rfl,HR.out.1.mono (fun _=>Or.inl) (fun x=>x.elim HN.out (fun y=>by omega)),HR.out.2.1⟩
theorem list_at {P:Program} {ops:Array Oper} {Q:Exit → Act → World → Prop} {rest:List Oper} {a:Act} {W:World} (R:World → Prop) (h:R W) (k:∀ W',R W' → wpList P ops Q rest a W'):wpList P ops Q rest a W:=k W h
theorem PSOk.less {c:Cfg} {s:PS} (h:PSOk c s):PSOk c (less s) :=
 ⟨h.qlen,h.qj,h.jm,h.fit,h.ne,h.tr,h.blk,h.rcv,by have:=h.wr; exact ⟨by show s.wait - 1 ≤ 1000; omega,by show s.rest - 1 ≤ 1000; omega⟩⟩
theorem HrdV.form {w:World} {b:Nat} {x:Value} {A:Ans} (h:HrdV w b x A):∃ (hb:ByteArray) (a:Option Addr) (n cap:Nat) (cl la:Bool),x = .agg #[.int .i64 (kindOf A:Nat),.string hb,.slice a n cap,.bool cl,.bool la]:=by
 cases A with
 | data h1 ps1 c1 t1 =>
  obtain ⟨a,cap,lb,e1,_⟩:=h
  exact ⟨_,a,_,cap,c1,t1,e1⟩
 | none n=>exact ⟨_,none,0,0,false,false,h.1⟩
set_option maxRecDepth 1000000 in
theorem act_any (F:Nat → Prop) (b o:Nat) (s:PS) (A:Ans) (x:Value) (c:Cfg) (w:World) (h:StAt w F b o s) (hF:∀ x,F x → x < w.heap.size) (hx:HrdV w b x A) (hc:c.Ok) (hp:PSOk c s) :
  Calls Tryz.prog 86 #[.pointer (some ⟨b,o,none⟩),x,cfgV c] w fun e w'=>Tells w F b o (act A c s) e w':=by
 have hlt:=h.lt
 have hne:b ≠ w.heap.size:=by omega
 have hne1:b ≠ w.heap.size + 1:=by omega
 have hne2:b ≠ w.heap.size + 1 + 1:=by omega
 have HN:=hide h.nb
 have hw1:=hp.wr.1
 have hw2:=hp.wr.2
 obtain ⟨hb,a,n,cap,cl,la,hxe⟩:=hx.form
 have HR:Hid (StAt (((w.alloc (.cells #[.int .i64 (kindOf A:Nat),.string hb,.slice a n cap,.bool cl,.bool la] 98)).alloc (.cells (cfgCells c) 26)).alloc (.cells zeroEv 62)) F b o s ∧ Bes b o w (((w.alloc (.cells #[.int .i64 (kindOf A:Nat),.string hb,.slice a n cap,.bool cl,.bool la] 98)).alloc (.cells (cfgCells c) 26)).alloc (.cells zeroEv 62)) ∧ CfgAt (((w.alloc (.cells #[.int .i64 (kindOf A:Nat),.string hb,.slice a n cap,.bool cl,.bool la] 98)).alloc (.cells (cfgCells c) 26)).alloc (.cells zeroEv 62)) (w.heap.size + 1) c ∧ Ev0 (((w.alloc (.cells #[.int .i64 (kindOf A:Nat),.string hb,.slice a n cap,.bool cl,.bool la] 98)).alloc (.cells (cfgCells c) 26)).alloc (.cells zeroEv 62)) (w.heap.size + 1 + 1) ∧ HrdAt (((w.alloc (.cells #[.int .i64 (kindOf A:Nat),.string hb,.slice a n cap,.bool cl,.bool la] 98)).alloc (.cells (cfgCells c) 26)).alloc (.cells zeroEv 62)) w.heap.size (.int .i64 (kindOf A:Nat)) (.string hb) (.slice a n cap) (.bool cl) (.bool la) ∧ HrdV (((w.alloc (.cells #[.int .i64 (kindOf A:Nat),.string hb,.slice a n cap,.bool cl,.bool la] 98)).alloc (.cells (cfgCells c) 26)).alloc (.cells zeroEv 62)) b x A) :=
  ⟨((h.alloc _).alloc _).alloc _,(((Bes.refl b o w).alloc hlt _).alloc (by simp; omega) _).alloc (by simp; omega) _,(CfgAt.at (by simp) c).alloc _,EvAt.new (by simp) _ _ _ _ _ _,((HrdAt.at rfl _ _ _ _ _).alloc _).alloc _,hx.below (Below.allocN (Below.allocN (Below.allocN (Below.refl _ _) _) _) _)⟩
 subst hxe
 have HP:=hide hp.less
 have HCK:=hide hc
 have HM:Hid ((less s).mode = s.mode):=rfl
 clear h hx hc hp
 unfold cfgV
 go_enter Tryz.func86,Tryz.ntmps86
 go_step
 go_step
 go_step
 go_step
 go_step
 go_step
 go_step
 go_step
 go_step
 go_step
 go_step
 go_step
 refine list_at (fun W=>StAt W F b o s ∧ Bes b o w W ∧ CfgAt W (w.heap.size + 1) c ∧ Ev0 W (w.heap.size + 1 + 1) ∧ HrdAt W w.heap.size (.int .i64 (kindOf A:Nat)) (.string hb) (.slice a n cap) (.bool cl) (.bool la) ∧ HrdV W b (.agg #[.int .i64 (kindOf A:Nat),.string hb,.slice a n cap,.bool cl,.bool la]) A) HR.out ?_
 rintro W ⟨h0,b0,C0,v0,X0,A0⟩
 have c5:=h0.mode
 have c6:=h0.wait
 have c7:=h0.rest
 have f6:=h0.fz (o + 6)
 have f7:=h0.fz (o + 7)
 obtain ⟨k0,k1,k2,k3,k4,k5,k6,k7,k8,k9⟩:=C0.all
 obtain ⟨y0,y1,y2,y3,y4⟩:=X0.cell
 have V0:=hide v0
 have B0:=hide b0
 have HL:=hide ((h0.wait' (s.wait - 1)).rest' (s.rest - 1))
 have HBB:=hide (((Bes.refl b o W).set 6 (by omega) (.int .i64 (s.wait - 1:Nat))).set 7 (by omega) (.int .i64 (s.rest - 1:Nat)))
 have HA0:=hide (A0.bes HBB.out)
 have HZ:Hid (w.heap.size + 1 + 1 < ((W.setCell ⟨b,o + 6,none⟩ (.int .i64 (s.wait - 1:Nat))).setCell ⟨b,o + 7,none⟩ (.int .i64 (s.rest - 1:Nat))).heap.size):=by have:=EvAt.lt v0; simpa [Hid] using this
 have HFF:Hid (∀ x,F x → x < ((W.setCell ⟨b,o + 6,none⟩ (.int .i64 (s.wait - 1:Nat))).setCell ⟨b,o + 7,none⟩ (.int .i64 (s.rest - 1:Nat))).heap.size):=fun x hx=>by have:=hF x hx; have:=b0.size; simp; omega
 clear h0 b0 C0 v0 X0 A0 HR
 by_cases m1:s.mode = 1
 ·rw [m1] at c5
  have HE:Hid (act A c s = actBidding (kindOf A) c (less s)):=by simp [Hid,act,m1]
  go_wp2_with fail
  refine (oneLess_any s.wait _ (by omega)).mono ?_
  rintro e wz ⟨rfl,hwz⟩
  obtain rfl:=hwz.symm
  go_wp2_with fail
  refine (oneLess_any s.rest _ (by omega)).mono ?_
  rintro e wz ⟨rfl,hwz⟩
  obtain rfl:=hwz.symm
  go_wp2_with fail
  refine (actBidding_any F b o (less s) (kindOf A) c _ HL.out HFF.out HCK.out HP.out (HM.out.trans m1)).mono ?_
  rintro e w4 ⟨rfl,h4,b4⟩
  have HV4:=hide (Ev0.bes (Ev0.bes V0.out HBB.out hne2) b4 hne2)
  have HB4:=hide ((B0.out.trans HBB.out).trans b4)
  obtain ⟨⟨x0,x1,x2,x3,x4,x5⟩,q0,q1,q2,q3,q4,q5⟩:=HV4.out.all
  have H4:=hide h4
  obtain ⟨ek,est,en,eh,et,ec,hev⟩:=evV_form (actBidding (kindOf A) c (less s)).2
  have HEV:=hide hev
  rw [hev]
  clear h4 b4 hev c5 c6 c7 f6 f7 k0 k1 k2 k3 k4 k5 k6 k7 k8 k9 y0 y1 y2 y3 y4
  go_wp2
  (try simp only [Exit.inBlock,Exit.then])
  refine bodyPost_ret (results_ev rfl _ _ (w.heap.size + 1 + 1) rfl (EvAt.all HV4.out)) rfl ?_
  rw [HE.out]
  exact ⟨by rw [HEV.out],ev_end H4.out HB4.out (Plus.sub (B0.out.trans HBB.out).size) (plus_ne hF (by omega) HZ.out) (by omega) hlt HN.out _ _ _ _ _ _⟩
 ·have m1':((s.mode:Int) == 1) = false:=by simp; omega
  by_cases m2:s.mode = 2
  ·rw [m2] at c5
   have HE:Hid (act A c s = actSending (kindOf A) c (less s)):=by simp [Hid,act,m2]
   go_wp2_with fail
   refine (oneLess_any s.wait _ (by omega)).mono ?_
   rintro e wz ⟨rfl,hwz⟩
   obtain rfl:=hwz.symm
   go_wp2_with fail
   refine (oneLess_any s.rest _ (by omega)).mono ?_
   rintro e wz ⟨rfl,hwz⟩
   obtain rfl:=hwz.symm
   go_wp2_with fail
   refine (actSending_any F b o (less s) (kindOf A) c _ HL.out HFF.out HCK.out HP.out (HM.out.trans m2)).mono ?_
   rintro e w4 ⟨rfl,h4,b4⟩
   have HV4:=hide (Ev0.bes (Ev0.bes V0.out HBB.out hne2) b4 hne2)
   have HB4:=hide ((B0.out.trans HBB.out).trans b4)
   obtain ⟨⟨x0,x1,x2,x3,x4,x5⟩,q0,q1,q2,q3,q4,q5⟩:=HV4.out.all
   have H4:=hide h4
   obtain ⟨ek,est,en,eh,et,ec,hev⟩:=evV_form (actSending (kindOf A) c (less s)).2
   have HEV:=hide hev
   rw [hev]
   clear h4 b4 hev c5 c6 c7 f6 f7 k0 k1 k2 k3 k4 k5 k6 k7 k8 k9 y0 y1 y2 y3 y4
   go_wp2
   (try simp only [Exit.inBlock,Exit.then])
   refine bodyPost_ret (results_ev rfl _ _ (w.heap.size + 1 + 1) rfl (EvAt.all HV4.out)) rfl ?_
   rw [HE.out]
   exact ⟨by rw [HEV.out],ev_end H4.out HB4.out (Plus.sub (B0.out.trans HBB.out).size) (plus_ne hF (by omega) HZ.out) (by omega) hlt HN.out _ _ _ _ _ _⟩
  ·have m2':((s.mode:Int) == 2) = false:=by simp; omega
   by_cases m3:s.mode = 3
   ·rw [m3] at c5
    have HE:Hid (act A c s = actReceiving A c (less s)):=by simp [Hid,act,m3]
    go_wp2_with fail
    refine (oneLess_any s.wait _ (by omega)).mono ?_
    rintro e wz ⟨rfl,hwz⟩
    obtain rfl:=hwz.symm
    go_wp2_with fail
    refine (oneLess_any s.rest _ (by omega)).mono ?_
    rintro e wz ⟨rfl,hwz⟩
    obtain rfl:=hwz.symm
    go_wp2_with fail
    refine (actReceiving_any F b o (less s) A _ c _ HL.out HFF.out HA0.out HP.out (HM.out.trans m3)).mono ?_
    rintro e w4 ⟨rfl,h4,b4⟩
    have HV4:=hide (Ev0.bes (Ev0.bes V0.out HBB.out hne2) b4 hne2)
    have HB4:=hide ((B0.out.trans HBB.out).trans b4)
    obtain ⟨⟨x0,x1,x2,x3,x4,x5⟩,q0,q1,q2,q3,q4,q5⟩:=HV4.out.all
    have H4:=hide h4
    obtain ⟨ek,est,en,eh,et,ec,hev⟩:=evV_form (actReceiving A c (less s)).2
    have HEV:=hide hev
    rw [hev]
    clear h4 b4 hev c5 c6 c7 f6 f7 k0 k1 k2 k3 k4 k5 k6 k7 k8 k9 y0 y1 y2 y3 y4
    go_wp2
    (try simp only [Exit.inBlock,Exit.then])
    refine bodyPost_ret (results_ev rfl _ _ (w.heap.size + 1 + 1) rfl (EvAt.all HV4.out)) rfl ?_
    rw [HE.out]
    exact ⟨by rw [HEV.out],ev_end H4.out HB4.out (Plus.sub (B0.out.trans HBB.out).size) (plus_ne hF (by omega) HZ.out) (by omega) hlt HN.out _ _ _ _ _ _⟩
   ·have m3':((s.mode:Int) == 3) = false:=by simp; omega
    have HE:Hid (act A c s = (actIdle (kindOf A) c (less s),none)):=by simp [Hid,act,m1,m2,m3]
    clear m1 m2 m3
    go_wp2_with fail
    refine (oneLess_any s.wait _ (by omega)).mono ?_
    rintro e wz ⟨rfl,hwz⟩
    obtain rfl:=hwz.symm
    go_wp2_with fail
    refine (oneLess_any s.rest _ (by omega)).mono ?_
    rintro e wz ⟨rfl,hwz⟩
    obtain rfl:=hwz.symm
    go_wp2_with fail
    refine (actIdle_any F b o (less s) (kindOf A) c _ HL.out HP.out.qlen).mono ?_
    rintro e w4 ⟨rfl,h4,b4⟩
    have HV4:=hide (Ev0.bes (Ev0.bes V0.out HBB.out hne2) b4 hne2)
    have HB4:=hide ((B0.out.trans HBB.out).trans b4)
    obtain ⟨⟨x0,x1,x2,x3,x4,x5⟩,q0,q1,q2,q3,q4,q5⟩:=HV4.out.all
    have H4:=hide h4
    clear h4 b4 c5 c6 c7 f6 f7 k0 k1 k2 k3 k4 k5 k6 k7 k8 k9 y0 y1 y2 y3 y4
    go_wp2
    (try simp only [Exit.inBlock,Exit.then])
    refine bodyPost_ret (results_ev rfl _ _ (w.heap.size + 1 + 1) rfl (EvAt.all HV4.out)) rfl ?_
    rw [HE.out]
    exact ⟨rfl,ev_end H4.out HB4.out (fun _=>Or.inl) (own_ne hF (by omega)) (by omega) hlt HN.out _ _ _ _ _ _⟩
end Go.Proofs.YtlbpjcphhocdkaaGreat
