/- The station tries again. The station cuts its message. The block at a place of the station's message; it is put on the line. The station's block is put on the line. The station sends: a block, the next one, the same one .. -/
import Derived.Test.YtlbpjcphhocdkaaGreatQ05
set_option maxRecDepth 1000000
set_option maxHeartbeats 16000000
namespace Go.Proofs.YtlbpjcphhocdkaaGreat
open Go.RowKit Go.Proofs.YtlbpjcphhocdkaaGreat.Mod Go.Proofs.YtlbpjcphhocdkaaGreat.Pst
theorem Ev0.bes {w w':World} {g b o:Nat} (h:Ev0 w g) (k:Bes b o w w') (hb:b ≠ g):Ev0 w' g:=EvAt.bes h k hb
/-- What a store into an empty event wants. -/
theorem Ev0.all {w:World} {g:Nat} (h:Ev0 w g):(w.cell? ⟨g,0,none⟩ = some (.int .i64 0) ∧ w.cell? ⟨g,1,none⟩ = some (.int .i64 0) ∧ w.cell? ⟨g,2,none⟩ = some (.int .i64 0) ∧ w.cell? ⟨g,3,none⟩ = some (.string ⟨#[]⟩) ∧ w.cell? ⟨g,4,none⟩ = some (.string ⟨#[]⟩) ∧ w.cell? ⟨g,5,none⟩ = some (.bool false)) ∧
  w.frozen? ⟨g,0,none⟩ = false ∧ w.frozen? ⟨g,1,none⟩ = false ∧ w.frozen? ⟨g,2,none⟩ = false ∧ w.frozen? ⟨g,3,none⟩ = false ∧ w.frozen? ⟨g,4,none⟩ = false ∧ w.frozen? ⟨g,5,none⟩ = false :=
 ⟨EvAt.cell h,EvAt.free h 0,EvAt.free h 1,EvAt.free h 2,EvAt.free h 3,EvAt.free h 4,EvAt.free h 5⟩
set_option maxRecDepth 1000000 in
theorem tryAgain_any (F:Nat → Prop) (b o:Nat) (s:PS) (k:Nat) (c:Cfg) (w:World) (h:StAt w F b o s) (hF:∀ x,F x → x < w.heap.size) (hj:s.q.length ≤ s.joined) (hm:s.joined ≤ 1000000000000000) (hn:s.q.length ≤ 100) (ht:s.tries ≤ 1000) (hk:3 ≤ k ∧ k ≤ 9) :
  Calls Tryz.prog 123 #[.pointer (some ⟨b,o,none⟩),.int .i64 k,cfgV c] w fun e w'=>Tells w F b o (tryAgain k c s) e w':=by
 have hlt:=h.lt
 have hne:b ≠ w.heap.size:=by omega
 have hne1:b ≠ w.heap.size + 1:=by omega
 have HK:=hide hk
 have HN:=hide h.nb
 have hR:StAt ((w.alloc (.cells (cfgCells c) 26)).alloc (.cells zeroEv 62)) F b o s ∧ Bes b o w ((w.alloc (.cells (cfgCells c) 26)).alloc (.cells zeroEv 62)) ∧ CfgAt ((w.alloc (.cells (cfgCells c) 26)).alloc (.cells zeroEv 62)) w.heap.size c ∧ Ev0 ((w.alloc (.cells (cfgCells c) 26)).alloc (.cells zeroEv 62)) (w.heap.size + 1) :=
  ⟨(h.alloc _).alloc _,((Bes.refl b o w).alloc hlt _).alloc (by simp; omega) _,(CfgAt.at rfl c).alloc _,EvAt.new (by simp) _ _ _ _ _ _⟩
 have c8:=h.tries
 have c10:=h.free
 have f8:=h.fz (o + 8)
 have f10:=h.fz (o + 10)
 have H:=hide h
 have HR:=hide hR
 clear h hk hR
 unfold cfgV
 cases hfr:s.free
 ·rw [hfr] at c10
  by_cases hw:s.tries > c.tries
  ·have HE:Hid (tryAgain k c s = finish 3 s):=by simp [Hid,tryAgain,hfr,hw]
   have hw':(c.tries:Int) < (s.tries:Int):=by omega
   go_enter Tryz.func123,Tryz.ntmps123
   go_wp2_with fail
   refine wp_at (fun W=>StAt W F b o s ∧ Bes b o w W ∧ CfgAt W w.heap.size c ∧ Ev0 W (w.heap.size + 1)) HR.out ?_
   rintro W ⟨h0,B0,C0,E0⟩
   have c8:=h0.tries
   obtain ⟨k0,k1,k2,k3,k4,k5,k6,k7,k8,k9⟩:=C0.all
   have HS:=hide h0
   have HB:=hide B0
   have HV:=hide E0
   have hz:=E0.lt
   clear h0 B0 C0 E0
   go_quiet (fail)
   go_wp2_with fail
   refine (finish_any F b o _ 3 _ (HS.out.drewN nq) hj hm hn).mono ?_
   rintro e w2 ⟨rfl,h2,b2⟩
   have HV2:=hide (HV.out.bes ((Bes.refl b o W).drewN nq |>.trans b2) hne1)
   have HB2:=hide ((HB.out.drewN nq).trans b2)
   obtain ⟨⟨x0,x1,x2,x3,x4,x5⟩,q0,q1,q2,q3,q4,q5⟩:=HV2.out.all
   have H2:=hide h2
   clear h2 b2 k0 k1 k2 k3 k4 k5 k6 k7 k8 k9
   simp only [finish,evV]
   go_wp2
   (try simp only [Exit.inBlock,Exit.then])
   refine bodyPost_ret (results_ev rfl _ _ (w.heap.size + 1) rfl (EvAt.all HV2.out)) rfl ?_
   rw [HE.out]
   exact ⟨rfl,ev_end H2.out HB2.out (Plus.sub HB.out.size) (plus_ne hF (by omega) hz) (by omega) hlt HN.out _ _ _ _ _ _⟩
  ·have HE:Hid (tryAgain k c s = (beginWait c (putShort k { s with tries:=s.tries + 1,free:=false }),none)):=by simp [Hid,tryAgain,hfr,hw]
   have hw':¬ (c.tries:Int) < (s.tries:Int):=by omega
   go_enter Tryz.func123,Tryz.ntmps123
   go_wp2_with fail
   refine wp_at (fun W=>StAt W F b o s ∧ Bes b o w W ∧ CfgAt W w.heap.size c ∧ Ev0 W (w.heap.size + 1)) HR.out ?_
   rintro W ⟨h0,B0,C0,E0⟩
   have c8:=h0.tries
   have c10:=h0.free
   have f8:=h0.fz (o + 8)
   have f10:=h0.fz (o + 10)
   obtain ⟨k0,k1,k2,k3,k4,k5,k6,k7,k8,k9⟩:=C0.all
   have HS:=hide h0
   have HB:=hide B0
   have HC:=hide C0
   have HV:=hide E0
   have hz:=E0.lt
   clear h0 B0 C0 E0
   go_quiet (fail)
   go_wp2_with fail
   refine (putShort_any F b o _ k _ (((HS.out.drewN nq).tries' (s.tries + 1)).free' false) HK.out).mono ?_
   rintro e w2 ⟨rfl,h2,b2⟩
   have b3:=(((((Bes.refl b o W).drewN nq).set 8 (by omega) (.int .i64 (s.tries + 1:Nat))).set 10 (by omega) (.bool false)).trans b2)
   have HC2:=hide (HC.out.bes b3 hne)
   have HV2:=hide (HV.out.bes b3 hne1)
   have HB2:=hide (HB.out.trans b3)
   have H2:=hide h2
   clear h2 b2 b3 k0 k1 k2 k3 k4 k5 k6 k7 k8 k9
   obtain ⟨k0,k1,k2,k3,k4,k5,k6,k7,k8,k9⟩:=HC2.out.all
   go_wp2_with fail
   refine (beginWait_any F b o _ c _ H2.out).mono ?_
   rintro e w4 ⟨rfl,h4,b4⟩
   have HV4:=hide (HV2.out.bes b4 hne1)
   have HB4:=hide (HB2.out.trans b4)
   obtain ⟨⟨x0,x1,x2,x3,x4,x5⟩,q0,q1,q2,q3,q4,q5⟩:=HV4.out.all
   have H4:=hide h4
   clear h4 b4 k0 k1 k2 k3 k4 k5 k6 k7 k8 k9
   go_wp2
   (try simp only [Exit.inBlock,Exit.then])
   refine bodyPost_ret (results_ev rfl _ _ (w.heap.size + 1) rfl (EvAt.all HV4.out)) rfl ?_
   rw [HE.out]
   exact ⟨rfl,ev_end H4.out HB4.out (fun _=>Or.inl) (own_ne hF (by omega)) (by omega) hlt HN.out _ _ _ _ _ _⟩
 ·rw [hfr] at c10
  have HE:Hid (tryAgain k c s = (beginWait c (putShort k { s with free:=false }),none)):=by simp [Hid,tryAgain,hfr]
  have HR2:Hid (StAt (((w.setCell ⟨b,o + 10,none⟩ (.bool false)).alloc (.cells (cfgCells c) 26)).alloc (.cells zeroEv 62)) F b o { s with free:=false } ∧ Bes b o w (((w.setCell ⟨b,o + 10,none⟩ (.bool false)).alloc (.cells (cfgCells c) 26)).alloc (.cells zeroEv 62)) ∧ CfgAt (((w.setCell ⟨b,o + 10,none⟩ (.bool false)).alloc (.cells (cfgCells c) 26)).alloc (.cells zeroEv 62)) w.heap.size c ∧ Ev0 (((w.setCell ⟨b,o + 10,none⟩ (.bool false)).alloc (.cells (cfgCells c) 26)).alloc (.cells zeroEv 62)) (w.heap.size + 1)) :=
   ⟨((H.out.free' false).alloc _).alloc _,(((Bes.refl b o w).set 10 (by omega) _).alloc (by simpa using hlt) _).alloc (by simp; omega) _,(CfgAt.at (by simp) c).alloc _,EvAt.new (by simp) _ _ _ _ _ _⟩
  go_enter Tryz.func123,Tryz.ntmps123
  go_wp2_with fail
  refine (putShort_any F b o _ k _ HR2.out.1 HK.out).mono ?_
  rintro e w2 ⟨rfl,h2,b2⟩
  have HC2:=hide (HR2.out.2.2.1.bes b2 hne)
  have HV2:=hide (HR2.out.2.2.2.bes b2 hne1)
  have HB2:=hide (HR2.out.2.1.trans b2)
  have H2:=hide h2
  clear h2 b2
  obtain ⟨k0,k1,k2,k3,k4,k5,k6,k7,k8,k9⟩:=HC2.out.all
  go_wp2_with fail
  refine (beginWait_any F b o _ c _ H2.out).mono ?_
  rintro e w4 ⟨rfl,h4,b4⟩
  have HV4:=hide (HV2.out.bes b4 hne1)
  have HB4:=hide (HB2.out.trans b4)
  obtain ⟨⟨x0,x1,x2,x3,x4,x5⟩,q0,q1,q2,q3,q4,q5⟩:=HV4.out.all
  have H4:=hide h4
  clear h4 b4 k0 k1 k2 k3 k4 k5 k6 k7 k8 k9
  go_wp2
  (try simp only [Exit.inBlock,Exit.then])
  refine bodyPost_ret (results_ev rfl _ _ (w.heap.size + 1) rfl (EvAt.all HV4.out)) rfl ?_
  rw [HE.out]
  exact ⟨rfl,ev_end H4.out HB4.out (fun _=>Or.inl) (own_ne hF (by omega)) (by omega) hlt HN.out _ _ _ _ _ _⟩
theorem between_any (s:ByteArray) (i j:Nat) (w:World) (_hs:s.size ≤ 1000000) (hi:i ≤ 1000000) (hij:i ≤ j) (_hj:j ≤ 1000000) :
  Calls Tryz.prog 153 #[.string s,.int .i64 i,.int .i64 j] w fun e w'=>∃ r,e = .returned (.string r) ∧ Hid (Is r ((s.data.toList.drop i).take (j - i))) ∧ r.size ≤ s.size ∧ w' = w:=by
 have hl:s.data.toList.length = s.size:=size_list s
 have hi0:¬ (i:Int) < 0:=by omega
 by_cases h1:s.size < j
 ·have h1':(s.size:Int) < (j:Int):=by omega
  by_cases h2:s.size ≤ i
  ·have h2':(s.size:Int) ≤ (i:Int):=by omega
   have HE:Hid ((s.data.toList.drop i).take (j - i) = []):=by unfold Hid; rw [List.drop_of_length_le (by omega),List.take_nil]
   go_enter Tryz.func153,Tryz.ntmps153
   go_wp2
   go_ret
   exact ⟨_,rfl,by first | exact Is.mk [] | (rw [HE.out]; exact Is.mk []),Nat.zero_le _,rfl⟩
  ·have h2':¬ (s.size:Int) ≤ (i:Int):=by omega
   have h3:i ≤ s.size:=by omega
   have HI:=hide (is_cut s i s.size)
   have HE:Hid ((s.data.toList.drop i).take (j - i) = (s.data.toList.drop i).take (s.size - i)):=by
    unfold Hid
    rw [List.take_of_length_le (by simp; omega),List.take_of_length_le (by simp)]
   go_enter Tryz.func153,Tryz.ntmps153
   go_wp2
   go_ret
   exact ⟨_,rfl,by rw [HE.out]; exact HI,by simp,rfl⟩
 ·have h1':¬ (s.size:Int) < (j:Int):=by omega
  have h3:j ≤ s.size:=by omega
  by_cases h2:j ≤ i
  ·have h2':(j:Int) ≤ (i:Int):=by omega
   have HE:Hid ((s.data.toList.drop i).take (j - i) = []):=by unfold Hid; rw [show j - i = 0 by omega]; rfl
   go_enter Tryz.func153,Tryz.ntmps153
   go_wp2
   go_ret
   exact ⟨_,rfl,by first | exact Is.mk [] | (rw [HE.out]; exact Is.mk []),Nat.zero_le _,rfl⟩
  ·have h2':¬ (j:Int) ≤ (i:Int):=by omega
   have HI:=hide (is_cut s i j)
   go_enter Tryz.func153,Tryz.ntmps153
   go_wp2
   go_ret
   exact ⟨_,rfl,HI,by simp; omega,rfl⟩
/-- A list of texts,by their bytes. -/
theorem datas_snoc (l:List ByteArray) (r:ByteArray):datas (l ++ [r]) = datas l ++ [r.data.toList]:=by simp [datas]
/-- What partsOf answers. -/
def PartsPost (w:World) (z:Nat) (s:ByteArray) (e:Ending) (w':World):Prop:=∃ v lb,e = .returned v ∧ OwnS w' w.heap.size v lb ∧ Hid (datas lb = chunk z s.size s.data.toList) ∧ Below w.heap.size w w'
set_option maxRecDepth 1000000 in
theorem partsOf_any (s:ByteArray) (z:Nat) (w:World) (hs:s.size ≤ 4 * z) (hz:1 ≤ z ∧ z ≤ 32) :
  Calls Tryz.prog 154 #[.string s,.int .i64 z] w fun e w'=>PartsPost w z s e w':=by
 have hz1:=hz.1
 have hz2:=hz.2
 have hl:s.data.toList.length = s.size:=size_list s
 have HG:Hid (∀ i,(chunk z s.size s.data.toList)[i]? = if i = 0 ∨ i * z < s.size then some ((s.data.toList.drop (i * z)).take z) else none):=by
  intro i
  have:=chunk_get z hz1 s.size s.data.toList (by omega) i
  rw [hl] at this
  exact this
 clear hz
 go_enter Tryz.func154,Tryz.ntmps154
 go_wp2_with (first | (go_at_call 153; refine (between_any s 0 z _ (by omega) (by omega) (by omega) (by omega)).mono ?_; rintro e w1 ⟨r0,rfl,HR0,hr0,hw1⟩; obtain rfl:=hw1.symm))
 go_loopw [5,6] (fun x i wr=>∃ (k:Nat) (lb:List ByteArray),1 ≤ k ∧ k ≤ 4 ∧ i = .int .i64 k ∧ lb.length = k ∧ OwnS wr w.heap.size x lb ∧ Hid (datas lb = (chunk z s.size s.data.toList).take k) ∧ Hid (k = 1 ∨ (k - 1) * z < s.size) ∧ Below w.heap.size w wr) (fun _ i _=>4 - (intOf i).toNat)
 case atStart =>
  refine ⟨1,[r0],by omega,by omega,rfl,rfl,?_,?_,Or.inl rfl,(Below.refl _ _).alloc (Nat.le_refl _) _⟩
  ·exact World.ownsRow_lit w #[.string r0] 1 (Nat.le_refl _) (by unfold maxLen; omega) rfl
  ·have:=HG.out 0
   rw [if_pos (Or.inl rfl)] at this
   unfold Hid
   rw [List.take_one,List.head?_eq_getElem?,this]
   simp [datas,HR0.out.data]
 case round =>
  obtain ⟨k,lb,hk1,hk4,rfl,hlb,hown,HD,HP,hbel⟩:=hrel
  by_cases h4:k < 4
  ·have h4':(k:Int) < 4:=by omega
   have hmul:(k:Int) * (z:Int) = ((k * z:Nat):Int):=by simp
   have hmul2:((k:Int) + 1) * (z:Int) = (((k + 1) * z:Nat):Int):=by simp
   have hb1:k * z ≤ 4 * 32:=Nat.mul_le_mul (by omega) (by omega)
   have hb2:(k + 1) * z ≤ 5 * 32:=Nat.mul_le_mul (by omega) (by omega)
   have hb3:k * z ≤ (k + 1) * z:=Nat.mul_le_mul_right _ (by omega)
   by_cases h5:k * z < s.size
   ·have HN:Hid ((k + 1) * z - k * z = z):=by unfold Hid; rw [Nat.add_mul]; omega
    have HK:=hide (HG.out k)
    have HK5:=hide h5
    have h5':((k * z:Nat):Int) < (s.size:Int):=by omega
    generalize hA:k * z = A at *
    generalize hB:(k + 1) * z = B at *
    have HA:=hide hA
    clear hA hB
    go_wp2_with (first | (go_at_call 153; refine (between_any s A B _ (by omega) (by omega) (by omega) (by omega)).mono ?_; rintro e w1 ⟨r1,rfl,HR1,hr1,hw1⟩; obtain rfl:=hw1.symm) | (at_builtin; refine app_txt _ r1 rfl (.tmp 33) (.tmp 35) rfl w.heap.size _ lb _ 1 rfl rfl rfl hown (by omega) w hbel hbel.size ?_; intro x' w' hown' hbel' hB'))
    go_roundw
    case rel =>
     refine ⟨k + 1,lb ++ [r1],by omega,by omega,by go_num,by simp [hlb],hown',?_,?_,hbel'⟩
     ·have e:=HK.out
      rw [if_pos (Or.inr HK5.out)] at e
      unfold Hid
      rw [datas_snoc,HD.out,HR1.out.data,HN.out,List.take_add_one,e]
      rfl
     ·right
      rw [Nat.add_sub_cancel,HA.out]
      exact HK5.out
    case measure=>simp [intOf]; omega
   ·have HT:Hid ((chunk z s.size s.data.toList).take k = chunk z s.size s.data.toList):=by
     have e:=HG.out k
     rw [if_neg (by omega)] at e
     exact List.take_of_length_le (get_none.1 e)
    have h5':¬ ((k * z:Nat):Int) < (s.size:Int):=by omega
    generalize k * z = A at *
    go_wp2
    go_ret
    exact ⟨_,lb,rfl,hown,by rw [← HT.out]; exact HD,hbel⟩
  ·have HT:Hid ((chunk z s.size s.data.toList).take k = chunk z s.size s.data.toList):=by
    have e:=HG.out k
    rw [if_neg (by rw [show k = 4 by omega]; omega)] at e
    exact List.take_of_length_le (get_none.1 e)
   have h4':¬ (k:Int) < 4:=by omega
   go_wp2
   go_ret
   exact ⟨_,lb,rfl,hown,by rw [← HT.out]; exact HD,hbel⟩
/-- What blockOf answers. -/
def BlkPost (w:World) (b:Bk) (e:Ending) (w':World):Prop :=
 ∃ v lb,e = .returned (.agg #[.string ⟨b.head.toArray⟩,v,.bool b.clear,.bool b.last]) ∧ OwnS w' w.heap.size v lb ∧ Hid (datas lb = b.parts) ∧ Below w.heap.size w w'
theorem BlkAt.at {w:World} {g:Nat} (hg:w.heap.size = g) (h v c t:Value):BlkAt (w.alloc (.cells #[h,v,c,t] 57)) g h v c t:=by subst hg; exact heap_alloc_new w _
theorem BlkAt.fz {w:World} {g:Nat} {h v c t:Value} (k:BlkAt w g h v c t) (i:Nat):w.frozen? ⟨g,i,none⟩ = false:=Go.Joins.unfrozen_of_block k i
theorem BlkAt.all {w:World} {g:Nat} {h v c t h' v' c' t':Value} (k:BlkAt w g h v c t):BlkAt ((((w.setCell ⟨g,0,none⟩ h').setCell ⟨g,1,none⟩ v').setCell ⟨g,2,none⟩ c').setCell ⟨g,3,none⟩ t') g h' v' c' t':=by
 have k0:BlkAt (w.setCell ⟨g,0,none⟩ h') g h' v c t:=Go.Joins.block_setCell (i:=0) k h'
 have k1:BlkAt ((w.setCell ⟨g,0,none⟩ h').setCell ⟨g,1,none⟩ v') g h' v' c t:=Go.Joins.block_setCell (i:=1) k0 v'
 have k2:BlkAt (((w.setCell ⟨g,0,none⟩ h').setCell ⟨g,1,none⟩ v').setCell ⟨g,2,none⟩ c') g h' v' c' t:=Go.Joins.block_setCell (i:=2) k1 c'
 exact Go.Joins.block_setCell (i:=3) k2 t'
theorem between_at (s:ByteArray) (I J:Int) (i j:Nat) (w:World) (hI:I = (i:Int)) (hJ:J = (j:Int)) (hs:s.size ≤ 1000000) (hi:i ≤ 1000000) (hij:i ≤ j) (hj:j ≤ 1000000) :
  Calls Tryz.prog 153 #[.string s,.int .i64 I,.int .i64 J] w fun e w'=>∃ r,e = .returned (.string r) ∧ Hid (Is r ((s.data.toList.drop i).take (j - i))) ∧ r.size ≤ s.size ∧ w' = w:=by
 subst hI hJ
 exact between_any s i j w hs hi hij hj
set_option maxRecDepth 1000000 in
theorem blockOf_any (m:Msg) (j:Nat) (c:Cfg) (w:World) (hc:c.Ok) (hm:m.text.length ≤ 200) (hj:j < nblk c m) :
  Calls Tryz.prog 142 #[msgV m,.int .i64 j,cfgV c] w fun e w'=>BlkPost w (blkAt c m j) e w':=by
 have hS:=hc.size
 have hP:=hc.parts
 have HL:=hide (block_last hc hj)
 have HPa:=hide (block_parts hc hj)
 have hj2:=(block_lt hc j).1 hj
 have hmul:(c.size:Int) * (c.parts:Int) = ((c.size * c.parts:Nat):Int):=by simp
 have hf1:c.size * c.parts ≤ 32 * 4:=Nat.mul_le_mul hS.2 hP.2
 have hf0:1 * 1 ≤ c.size * c.parts:=Nat.mul_le_mul hS.1 hP.1
 have hf4:c.size * c.parts ≤ c.size * 4:=Nat.mul_le_mul_left _ hP.2
 have hmul2:(j:Int) * ((c.size * c.parts:Nat):Int) = ((j * (c.size * c.parts):Nat):Int):=by simp
 have hfr:j * (c.size * c.parts) ≤ 200:=by rcases hj2 with rfl | h <;> omega
 have hjb:j ≤ 200:=by
  rcases hj2 with rfl | h
  ·omega
  ·have:j * 1 ≤ j * (c.size * c.parts):=Nat.mul_le_mul_left _ (by omega)
   omega
 obtain ⟨tx,htx⟩:∃ tx:ByteArray,tx = ⟨m.text.toArray⟩:=⟨_,rfl⟩
 obtain ⟨hd,hhd⟩:∃ hd:ByteArray,hd = ⟨m.head.toArray⟩:=⟨_,rfl⟩
 have hts:tx.size ≤ 200:=by rw [htx]; exact hm
 have HT:Hid (tx.data.toList = m.text):=by rw [htx]; rfl
 have htl:tx.size = m.text.length:=by rw [htx]; rfl
 have HH:Hid ((⟨(blkAt c m j).head.toArray⟩:ByteArray) = if j = 0 then hd else ⟨#[]⟩):=by
  unfold Hid
  show (⟨(if j = 0 then m.head else []).toArray⟩:ByteArray) = _
  rw [hhd]
  split <;> rfl
 rw [← htl] at HL
 unfold msgV cfgV
 rw [← htx,← hhd]
 have HC:Hid ((blkAt c m j).clear = m.clear):=rfl
 unfold BlkPost
 rw [HC.out,HL.out,HH.out]
 generalize hfull:c.size * c.parts = full at *
 generalize hfrom:j * full = fr at *
 have HFu:=hide hfull
 have HFr:=hide hfrom
 have hcs:c.size ≤ 32:=hS.2
 have hcs1:1 ≤ c.size:=hS.1
 have hlen:(List.take full (List.drop fr m.text)).length ≤ full:=by simp; omega
 have HLen:=hide hlen
 clear hfull hfrom hj2 hc hS hP HL HH HC htx hhd hlen htl hj
 have dl:decide ((tx.size:Int) ≤ (fr:Int) + (full:Int)) = decide (tx.size ≤ fr + full):=by
  apply decide_eq_decide.2
  omega
 generalize decide (tx.size ≤ fr + full) = L at *
 by_cases h0:j = 0
 ·have d0:((j:Int) == 0) = true:=by simp [h0]
  rw [if_pos h0]
  clear h0
  go_enter Tryz.func142,Tryz.ntmps142
  go_wp2_with fail
  refine (between_at tx _ _ fr (fr + full) _ rfl (by simp) (by omega) (by omega) (by omega) (by omega)).mono ?_
  rintro e w1 ⟨r,rfl,HR,hr,hw1⟩
  subst hw1
  go_wp2_with fail
  refine (partsOf_any r c.size _ (by rw [HR.out.size,HT.out,Nat.add_sub_cancel_left]; have:=HLen.out; omega) ⟨hcs1,hcs⟩).mono ?_
  rintro e w2 ⟨v,lb,rfl,hown,HD,hb2⟩
  have X3:BlkAt w2 (w.heap.size + 1 + 1 + 1) (.string hd) (.slice none 0 0) (.bool m.clear) (.bool L):=BlkAt.below (BlkAt.at (by simp) _ _ _ _) hb2 (by simp)
  have X2:BlkAt w2 (w.heap.size + 1 + 1) (.string ⟨#[]⟩) (.slice none 0 0) (.bool false) (.bool false):=BlkAt.below (BlkAt.below (BlkAt.at (by simp) _ _ _ _) ((Below.refl _ _).alloc (Nat.le_refl _) _) (by simp)) hb2 (by simp)
  have HB:=hide ((Below.allocN (Below.allocN (Below.allocN (Below.allocN (Below.refl w.heap.size w) _) _) _) _).trans (hb2.mono (by simp; omega)))
  have HO:=hide (hown.mono (B':=w.heap.size + 4) (by simp))
  obtain ⟨a,cap,rfl,_⟩:=hown.texts
  have p0:=X3.cell0
  have p1:=X3.cell1
  have p2:=X3.cell2
  have p3:=X3.cell3
  have f1:=X3.fz 1
  have q0:=X2.cell0
  have q1:=X2.cell1
  have q2:=X2.cell2
  have q3:=X2.cell3
  have g0:=X2.fz 0
  have g1:=X2.fz 1
  have g2:=X2.fz 2
  have g3:=X2.fz 3
  have HX2:=hide X2
  have HX3:=hide X3
  have HPP:Hid (datas lb = (blkAt c m j).parts):=by
   unfold Hid
   have e1:r.data.toList = List.take full (List.drop fr m.text):=by rw [HR.out.data,HT.out,Nat.add_sub_cancel_left]
   have e2:r.size = (List.take full (List.drop fr m.text)).length:=by rw [← e1,size_list]
   rw [HD.out,HPa.out,e1,e2]
  clear X2 X3 hown hb2 HD HPa HT HLen
  generalize hnl:lb.length = nl at *
  have HNL:=hide hnl
  clear hnl
  go_wp2
  (try simp only [Exit.inBlock,Exit.then])
  have Y2:BlkAt (w2.setCell ⟨w.heap.size + 1 + 1 + 1,1,none⟩ (.slice a nl cap)) (w.heap.size + 1 + 1) (.string ⟨#[]⟩) (.slice none 0 0) (.bool false) (.bool false):=(Below.heap_setCell _ _ _ _ (by simp)).trans HX2.out
  refine bodyPost_ret (results_blk rfl _ _ (w.heap.size + 1 + 1) rfl (BlkAt.all Y2)) rfl ?_
  refine ⟨_,lb,rfl,?_,HPP,?_⟩
  ·exact ((((HO.out.setCell (by omega)).setCell (by omega)).setCell (by omega)).setCell (by omega) |>.setCell (by omega)).mono (by omega)
  ·exact Below.setN (Below.setN (Below.setN (Below.setN (Below.setN HB.out (by omega) _ _) (by omega) _ _) (by omega) _ _) (by omega) _ _) (by omega) _ _
 ·have d0:((j:Int) == 0) = false:=by simp [h0]
  rw [if_neg h0]
  clear h0
  go_enter Tryz.func142,Tryz.ntmps142
  go_wp2_with fail
  refine (between_at tx _ _ fr (fr + full) _ rfl (by simp) (by omega) (by omega) (by omega) (by omega)).mono ?_
  rintro e w1 ⟨r,rfl,HR,hr,hw1⟩
  subst hw1
  go_wp2_with fail
  refine (partsOf_any r c.size _ (by rw [HR.out.size,HT.out,Nat.add_sub_cancel_left]; have:=HLen.out; omega) ⟨hcs1,hcs⟩).mono ?_
  rintro e w2 ⟨v,lb,rfl,hown,HD,hb2⟩
  have X3:BlkAt w2 (w.heap.size + 1 + 1 + 1) (.string ⟨#[]⟩) (.slice none 0 0) (.bool m.clear) (.bool L):=BlkAt.below (BlkAt.at (by simp) _ _ _ _) hb2 (by simp)
  have X2:BlkAt w2 (w.heap.size + 1 + 1) (.string ⟨#[]⟩) (.slice none 0 0) (.bool false) (.bool false):=BlkAt.below (BlkAt.below (BlkAt.at (by simp) _ _ _ _) ((Below.refl _ _).alloc (Nat.le_refl _) _) (by simp)) hb2 (by simp)
  have HB:=hide ((Below.allocN (Below.allocN (Below.allocN (Below.allocN (Below.refl w.heap.size w) _) _) _) _).trans (hb2.mono (by simp; omega)))
  have HO:=hide (hown.mono (B':=w.heap.size + 4) (by simp))
  obtain ⟨a,cap,rfl,_⟩:=hown.texts
  have p0:=X3.cell0
  have p1:=X3.cell1
  have p2:=X3.cell2
  have p3:=X3.cell3
  have f1:=X3.fz 1
  have q0:=X2.cell0
  have q1:=X2.cell1
  have q2:=X2.cell2
  have q3:=X2.cell3
  have g0:=X2.fz 0
  have g1:=X2.fz 1
  have g2:=X2.fz 2
  have g3:=X2.fz 3
  have HX2:=hide X2
  have HX3:=hide X3
  have HPP:Hid (datas lb = (blkAt c m j).parts):=by
   unfold Hid
   have e1:r.data.toList = List.take full (List.drop fr m.text):=by rw [HR.out.data,HT.out,Nat.add_sub_cancel_left]
   have e2:r.size = (List.take full (List.drop fr m.text)).length:=by rw [← e1,size_list]
   rw [HD.out,HPa.out,e1,e2]
  clear X2 X3 hown hb2 HD HPa HT HLen
  generalize hnl:lb.length = nl at *
  have HNL:=hide hnl
  clear hnl
  go_wp2
  (try simp only [Exit.inBlock,Exit.then])
  have Y2:BlkAt (w2.setCell ⟨w.heap.size + 1 + 1 + 1,1,none⟩ (.slice a nl cap)) (w.heap.size + 1 + 1) (.string ⟨#[]⟩) (.slice none 0 0) (.bool false) (.bool false):=(Below.heap_setCell _ _ _ _ (by simp)).trans HX2.out
  refine bodyPost_ret (results_blk rfl _ _ (w.heap.size + 1 + 1) rfl (BlkAt.all Y2)) rfl ?_
  refine ⟨_,lb,rfl,?_,HPP,?_⟩
  ·exact ((((HO.out.setCell (by omega)).setCell (by omega)).setCell (by omega)).setCell (by omega) |>.setCell (by omega)).mono (by omega)
  ·exact Below.setN (Below.setN (Below.setN (Below.setN (Below.setN HB.out (by omega) _ _) (by omega) _ _) (by omega) _ _) (by omega) _ _) (by omega) _ _
theorem exit_at {K:Act → World → Prop} {Q:Exit → Act → World → Prop} {a:Act} {W:World} (R:World → Prop) (h:R W) (k:∀ W',R W' → Exit.then K Q .normal a W'):Exit.then K Q .normal a W:=k W h
theorem BlkAt.atD {w:World} {g:Nat} (hg:w.heap.size = g) (h v c t:Value):BlkAt (w.alloc (.cells #[h,v,c,t] 57)).drew g h v c t:=BlkAt.at hg h v c t
/-- A message in memory. -/
def MsAt (w:World) (g:Nat) (m:Msg):Prop:=w.heap[g]? = some (.cells #[.string ⟨m.head.toArray⟩,.string ⟨m.text.toArray⟩,.bool m.clear] 60 (0,0))
theorem MsAt.at {w:World} {g:Nat} (hg:w.heap.size = g) (m:Msg):MsAt (w.alloc (.cells #[.string ⟨m.head.toArray⟩,.string ⟨m.text.toArray⟩,.bool m.clear] 60)) g m:=by subst hg; exact heap_alloc_new w _
theorem MsAt.cells {w:World} {g:Nat} {m:Msg} (h:MsAt w g m):w.cell? ⟨g,0,none⟩ = some (.string ⟨m.head.toArray⟩) ∧ w.cell? ⟨g,1,none⟩ = some (.string ⟨m.text.toArray⟩) ∧ w.cell? ⟨g,2,none⟩ = some (.bool m.clear):=by
 unfold MsAt at h; simp [World.cell?,h]
/-- What is read while the block is made. -/
def PbCells (W:World) (gm gc b o:Nat) (m:Msg) (c:Cfg) (k:Nat):Prop :=
 (W.cell? ⟨gm,0,none⟩ = some (.string ⟨m.head.toArray⟩) ∧ W.cell? ⟨gm,1,none⟩ = some (.string ⟨m.text.toArray⟩) ∧ W.cell? ⟨gm,2,none⟩ = some (.bool m.clear)) ∧
 (W.cell? ⟨gc,0,none⟩ = some (.int .i64 c.check) ∧ W.cell? ⟨gc,1,none⟩ = some (.int .i64 c.size) ∧ W.cell? ⟨gc,2,none⟩ = some (.int .i64 c.parts) ∧ W.cell? ⟨gc,3,none⟩ = some (.int .i64 c.queue) ∧ W.cell? ⟨gc,4,none⟩ = some (.int .i64 c.first) ∧
  W.cell? ⟨gc,5,none⟩ = some (.int .i64 c.second) ∧ W.cell? ⟨gc,6,none⟩ = some (.int .i64 c.reply) ∧ W.cell? ⟨gc,7,none⟩ = some (.int .i64 c.lost) ∧ W.cell? ⟨gc,8,none⟩ = some (.int .i64 c.tries) ∧ W.cell? ⟨gc,9,none⟩ = some (.int .i64 c.waits)) ∧
 W.cell? ⟨b,o + 11,none⟩ = some (.int .i64 k)
theorem pb_cells {W:World} {F:Nat → Prop} {gm gc b o:Nat} {m:Msg} {c:Cfg} {s:PS} (hm:MsAt W gm m) (hc:CfgAt W gc c) (hs:StAt W F b o s):PbCells W gm gc b o m c s.block:=⟨hm.cells,hc.all,hs.block⟩
theorem PbCells.below {W W':World} {gm gc b o:Nat} {m:Msg} {c:Cfg} {k:Nat} (h:PbCells W gm gc b o m c k) (hb:Below W.heap.size W W'):PbCells W' gm gc b o m c k:=by
 obtain ⟨⟨m0,m1,m2⟩,⟨c0,c1,c2,c3,c4,c5,c6,c7,c8,c9⟩,k0⟩:=h
 have e:∀ (p:Addr) (v:Value),W.cell? p = some v → W'.cell? p = some v:=fun p v hp=>(hb.cell (World.block_lt_of_cell? W p hp)).trans hp
 exact ⟨⟨e _ _ m0,e _ _ m1,e _ _ m2⟩,⟨e _ _ c0,e _ _ c1,e _ _ c2,e _ _ c3,e _ _ c4,e _ _ c5,e _ _ c6,e _ _ c7,e _ _ c8,e _ _ c9⟩,e _ _ k0⟩
theorem tx_enc {c:Cfg} (hc:c.Ok) {b:Bk} (h:Blk.berr b.head b.parts b.clear = 0):Blk.encE b.head b.parts b.clear c.check = 0 ∧ Blk.encS b.head b.parts b.clear b.last c.check = txOf c (.blk b):=by
 have h1:((c.check:Int) = 0 ∨ (c.check:Int) = 1):=by have:=hc.check; omega
 have h2:Blk.encE b.head b.parts b.clear c.check = 0:=by unfold Blk.encE; rw [if_pos h1]; exact h
 exact ⟨h2,by unfold Blk.encS; rw [if_pos h2]; rfl⟩
/-- The program's Encode at a block that may be sent. -/
theorem encode_fit {c:Cfg} (hc:c.Ok) (B:Bk) (v:Value) (lb:List ByteArray) (n:Nat) (w:World) (hB:Blk.berr B.head B.parts B.clear = 0) (hd:datas lb = B.parts) (hown:OwnS w n v lb) :
  Calls Tryz.prog 45 #[.agg #[.string ⟨B.head.toArray⟩,v,.bool B.clear,.bool B.last],.int .i64 c.check] w fun e w'=>e = .returned (.tuple #[.string ⟨(txOf c (.blk B)).toArray⟩,.int .i64 0]) ∧ Below w.heap.size w w':=by
 obtain ⟨a,cap,rfl,ht⟩:=hown.texts
 obtain ⟨g1,g2,g3,g4⟩:=Blk.berr_ok hB
 have hl:∀ s ∈ lb,s.size ≤ 140737488352000:=by
  intro s hs
  have hmem:s.data.toList ∈ B.parts:=by rw [← hd]; exact List.mem_map_of_mem hs
  have:=List.all_eq_true.1 g4 _ hmem
  unfold Blk.partOk at this
  simp at this
  have h1:=this.1
  omega
 have hh:(⟨B.head.toArray⟩:ByteArray).size ≤ 140737488352000:=by
  have:=Blk.headOk_le g1
  show B.head.length ≤ _
  omega
 have hn:lb.length ≤ 140737488352000:=by rw [← datas_length,hd]; omega
 have k:=encode_any ⟨B.head.toArray⟩ a lb cap B.clear B.last c.check w hh hl hn ht
 have e:=tx_enc hc hB
 have e1:(⟨B.head.toArray⟩:ByteArray).data.toList = B.head:=rfl
 rw [e1,hd,e.1,e.2] at k
 exact k
set_option maxRecDepth 1000000 in
theorem putBlock_any (F:Nat → Prop) (b o:Nat) (s:PS) (c:Cfg) (w:World) (h:StAt w F b o s) (hc:c.Ok) (hq:s.q ≠ []) (hn:s.q.length ≤ 100) (hm:MsgFit (message s)) (hj:s.block < nblk c (message s)) :
  Calls Tryz.prog 139 #[.pointer (some ⟨b,o,none⟩),cfgV c] w fun e w'=>Does w F b o (putBlock c s) e w':=by
 have hlt:=h.lt
 have hne:b ≠ w.heap.size:=by omega
 have HBk:=hide (blk_fit hc hm hj)
 have HBO:Hid (∀ W,Calls Tryz.prog 142 #[.agg #[.string ⟨(message s).head.toArray⟩,.string ⟨(message s).text.toArray⟩,.bool (message s).clear],.int .i64 s.block,.agg #[.int .i64 c.check,.int .i64 c.size,.int .i64 c.parts,.int .i64 c.queue,.int .i64 c.first,.int .i64 c.second,.int .i64 c.reply,.int .i64 c.lost,.int .i64 c.tries,.int .i64 c.waits]] W fun e w'=>BlkPost W (blkAt c (message s) s.block) e w') :=
  fun W=>blockOf_any (message s) s.block c W hc hm.2.1 hj
 have HCK:=hide hc
 have HE:Hid (putBlock c s = { s with put:=txOf c (.blk (blkAt c (message s) s.block)) }):=rfl
 have H:=hide (h.alloc (.cells (cfgCells c) 26))
 have HC:=hide (CfgAt.new w c)
 have HB:=hide ((Bes.refl b o w).alloc hlt (.cells (cfgCells c) 26))
 clear h hc hm hj
 unfold cfgV
 go_enter Tryz.func139,Tryz.ntmps139
 go_wp2_with fail
 refine (message_any F b o s _ H.out hq hn).mono ?_
 rintro e w1 ⟨rfl,hb1⟩
 have H1:=hide (H.out.below hb1)
 have C1:=hide (HC.out.below hb1)
 have B1:=hide (HB.out.below (by simp; omega) hb1)
 unfold msgV
 generalize hM:message s = M at *
 have HM:=hide hM
 clear hM hb1
 go_wp2_with fail
 refine wp_at (fun W=>StAt W F b o s ∧ Bes b o w W ∧ CfgAt W w.heap.size c ∧ MsAt W w1.heap.size M) ⟨H1.out.alloc _,B1.out.alloc H1.out.lt _,C1.out.alloc _,MsAt.at rfl M⟩ ?_
 rintro W0 ⟨h0,B0,C0,M0⟩
 have PC:=pb_cells M0 C0 h0
 obtain ⟨⟨m0,m1,m2⟩,⟨k0,k1,k2,k3,k4,k5,k6,k7,k8,k9⟩,kb⟩:=PC
 have HPC:Hid (PbCells W0 w1.heap.size w.heap.size b o M c s.block):=pb_cells M0 C0 h0
 have H0:=hide h0
 have BB0:=hide B0
 have CC0:=hide C0
 clear h0 B0 C0 M0
 go_region_held3 (fun W=>Below W0.heap.size W0 W ∧ (W.cell? ⟨w1.heap.size,0,none⟩ = some (.string ⟨M.head.toArray⟩) ∧ W.cell? ⟨w1.heap.size,1,none⟩ = some (.string ⟨M.text.toArray⟩) ∧ W.cell? ⟨w1.heap.size,2,none⟩ = some (.bool M.clear)) ∧
   (W.cell? ⟨w.heap.size,0,none⟩ = some (.int .i64 c.check) ∧ W.cell? ⟨w.heap.size,1,none⟩ = some (.int .i64 c.size) ∧ W.cell? ⟨w.heap.size,2,none⟩ = some (.int .i64 c.parts) ∧ W.cell? ⟨w.heap.size,3,none⟩ = some (.int .i64 c.queue) ∧ W.cell? ⟨w.heap.size,4,none⟩ = some (.int .i64 c.first) ∧
    W.cell? ⟨w.heap.size,5,none⟩ = some (.int .i64 c.second) ∧ W.cell? ⟨w.heap.size,6,none⟩ = some (.int .i64 c.reply) ∧ W.cell? ⟨w.heap.size,7,none⟩ = some (.int .i64 c.lost) ∧ W.cell? ⟨w.heap.size,8,none⟩ = some (.int .i64 c.tries) ∧ W.cell? ⟨w.heap.size,9,none⟩ = some (.int .i64 c.waits)) ∧
   W.cell? ⟨b,o + 11,none⟩ = some (.int .i64 s.block))
  ((refine (fun hb=>⟨hb,PbCells.below HPC.out hb⟩:Below W0.heap.size W0 _ → _) ?_; repeat' (with_reducible (first | apply Below.drew | apply below_drewN | apply Below.allocN | (refine Below.setN ?_ (by omega) _ _) | exact Below.refl _ _ | refine below_step ?_ hb2))))
  (first | (go_at_call 142; refine (HBO.out _).mono ?_; rintro e w2 ⟨v,lb,rfl,hown,HD,hb2⟩; obtain ⟨a,cap,rfl,_⟩:=hown.texts; first | (have Z:BlkAt w2 W0.heap.size (.string ⟨#[]⟩) (.slice none 0 0) (.bool false) (.bool false):=BlkAt.below (BlkAt.atD rfl _ _ _ _) hb2 (by simp); have z0:=Z.cell0; have z1:=Z.cell1; have z2:=Z.cell2; have z3:=Z.cell3; have y0:=Z.fz 0; have y1:=Z.fz 1; have y2:=Z.fz 2; have y3:=Z.fz 3) | skip))
 ·refine exit_at (fun W=>Below W0.heap.size W0 W ∧ BlkAt W w2.heap.size (.string ⟨(blkAt c M s.block).head.toArray⟩) (.slice a lb.length cap) (.bool (blkAt c M s.block).clear) (.bool (blkAt c M s.block).last) ∧ OwnS W W0.heap.size (.slice a lb.length cap) lb) ⟨Below.allocN (below_drew_head hb2) _,BlkAt.at rfl _ _ _ _,hown.alloc _⟩ ?_
  rintro W5 ⟨hb5,X5,O5⟩
  have H5:=hide (H0.out.below hb5)
  have C5:=hide (CC0.out.below hb5)
  have B5:=hide (BB0.out.below H0.out.lt hb5)
  have p0:=X5.cell0
  have p1:=X5.cell1
  have p2:=X5.cell2
  have p3:=X5.cell3
  have HO5:=hide O5
  clear m0 m1 m2 k0 k1 k2 k3 k4 k5 k6 k7 k8 k9 kb hb5 X5 O5
  obtain ⟨k0,k1,k2,k3,k4,k5,k6,k7,k8,k9⟩:=C5.out.all
  go_wp2_with fail
  refine (encode_fit HCK.out (blkAt c M s.block) _ lb _ _ HBk.out HD.out HO5.out).mono ?_
  rintro e w6 ⟨rfl,hb6⟩
  have H6:=hide (H5.out.below hb6)
  have B6:=hide (B5.out.below H5.out.lt hb6)
  have c4:=H6.out.put
  have f4:=H6.out.fz (o + 4)
  clear hb6 k0 k1 k2 k3 k4 k5 k6 k7 k8 k9 p0 p1 p2 p3
  generalize txOf c (.blk (blkAt c M s.block)) = TX at *
  go_wp2
  go_end0
  rw [HE.out]
  exact ⟨rfl,H6.out.put' _,B6.out.set 4 (by omega) _⟩
 ·refine exit_at (fun W=>Below W0.heap.size W0 W ∧ BlkAt W W0.heap.size (.string ⟨(blkAt c M s.block).head.toArray⟩) (.slice a lb.length cap) (.bool (blkAt c M s.block).clear) (.bool (blkAt c M s.block).last) ∧ OwnS W W0.heap.size (.slice a lb.length cap) lb) ⟨?_,BlkAt.all Z,?_⟩ ?_
  ·have hb3:Below W0.heap.size W0 w2:=(Below.drew (Below.allocN (Below.refl _ _) _)).trans (hb2.mono (by simp))
   exact Below.setN (Below.setN (Below.setN (Below.setN hb3 (Nat.le_refl _) _ _) (Nat.le_refl _) _ _) (Nat.le_refl _) _ _) (Nat.le_refl _) _ _
  ·have O2:OwnS w2 (W0.heap.size + 1) (.slice a lb.length cap) lb:=hown.mono (by simp)
   exact ((((O2.setCell (by omega)).setCell (by omega)).setCell (by omega)).setCell (by omega)).mono (by omega)
  clear z0 z1 z2 z3 y0 y1 y2 y3
  rintro W5 ⟨hb5,X5,O5⟩
  have H5:=hide (H0.out.below hb5)
  have C5:=hide (CC0.out.below hb5)
  have B5:=hide (BB0.out.below H0.out.lt hb5)
  have p0:=X5.cell0
  have p1:=X5.cell1
  have p2:=X5.cell2
  have p3:=X5.cell3
  have HO5:=hide O5
  clear m0 m1 m2 k0 k1 k2 k3 k4 k5 k6 k7 k8 k9 kb hb5 X5 O5
  obtain ⟨k0,k1,k2,k3,k4,k5,k6,k7,k8,k9⟩:=C5.out.all
  go_wp2_with fail
  refine (encode_fit HCK.out (blkAt c M s.block) _ lb _ _ HBk.out HD.out HO5.out).mono ?_
  rintro e w6 ⟨rfl,hb6⟩
  have H6:=hide (H5.out.below hb6)
  have B6:=hide (B5.out.below H5.out.lt hb6)
  have c4:=H6.out.put
  have f4:=H6.out.fz (o + 4)
  clear hb6 k0 k1 k2 k3 k4 k5 k6 k7 k8 k9 p0 p1 p2 p3
  generalize txOf c (.blk (blkAt c M s.block)) = TX at *
  go_wp2
  go_end0
  rw [HE.out]
  exact ⟨rfl,H6.out.put' _,B6.out.set 4 (by omega) _⟩
set_option maxRecDepth 1000000 in
theorem send_any (F:Nat → Prop) (b o:Nat) (s:PS) (k:Nat) (c:Cfg) (w:World) (h:StAt w F b o s) (hc:c.Ok) (hq:s.q ≠ []) (hn:s.q.length ≤ 100) (hm:MsgFit (message s)) (hj:k < nblk c (message s)) :
  Calls Tryz.prog 120 #[.pointer (some ⟨b,o,none⟩),.int .i64 k,cfgV c] w fun e w'=>Does w F b o (send k c s) e w':=by
 have hlt:=h.lt
 have hne:b ≠ w.heap.size:=by omega
 have H0:=hide ((((((h.mode' 2).tries' 1).off' 0).free' false).block' k).alloc (.cells (cfgCells c) 26))
 have HC:=hide (CfgAt.at (w:=(((((w.setCell ⟨b,o + 5,none⟩ (.int .i64 2)).setCell ⟨b,o + 8,none⟩ (.int .i64 1)).setCell ⟨b,o + 9,none⟩ (.int .i64 0)).setCell ⟨b,o + 10,none⟩ (.bool false)).setCell ⟨b,o + 11,none⟩ (.int .i64 k))) (g:=w.heap.size) (by simp) c)
 have HB:=hide ((((((Bes.refl b o w).set 5 (by omega) (.int .i64 2)).set 8 (by omega) (.int .i64 1)).set 9 (by omega) (.int .i64 0)).set 10 (by omega) (.bool false)).set 11 (by omega) (.int .i64 k) |>.alloc (by simpa using hlt) (.cells (cfgCells c) 26))
 have c5:=h.mode
 have c8:=h.tries
 have c9:=h.off
 have c10:=h.free
 have c11:=h.block
 have f5:=h.fz (o + 5)
 have f8:=h.fz (o + 8)
 have f9:=h.fz (o + 9)
 have f10:=h.fz (o + 10)
 have f11:=h.fz (o + 11)
 have HJ:=hide hj
 have HM:=hide hm
 have HCK:=hide hc
 clear h hj hm hc
 obtain ⟨k0,k1,k2,k3,k4,k5,k6,k7,k8,k9⟩:=HC.out.all
 unfold cfgV
 go_enter Tryz.func120,Tryz.ntmps120
 go_wp2_with fail
 refine (putBlock_any F b o _ c _ H0.out HCK.out hq hn HM.out HJ.out).mono ?_
 rintro e w1 ⟨rfl,h1,b1⟩
 have C1:=hide (HC.out.bes b1 hne)
 have B1:=hide (HB.out.trans b1)
 have H1:=hide h1
 clear h1 b1 c5 c8 c9 c10 c11 f5 f8 f9 f10 f11 k0 k1 k2 k3 k4 k5 k6 k7 k8 k9
 obtain ⟨k0,k1,k2,k3,k4,k5,k6,k7,k8,k9⟩:=C1.out.all
 go_wp2_with fail
 refine (beginWait_any F b o _ c _ H1.out).mono ?_
 rintro e w2 ⟨rfl,h2,b2⟩
 go_wp2
 go_end0
 exact ⟨rfl,h2,B1.out.trans b2⟩
set_option maxRecDepth 1000000 in
theorem sendAgain_any (F:Nat → Prop) (b o:Nat) (s:PS) (c:Cfg) (w:World) (h:StAt w F b o s) (hF:∀ x,F x → x < w.heap.size) (hc:c.Ok) (hq:s.q ≠ []) (hn:s.q.length ≤ 100) (hj:s.q.length ≤ s.joined) (hm:s.joined ≤ 1000000000000000) (ht:s.tries ≤ 1000) (hM:MsgFit (message s)) (hb:s.block < nblk c (message s)) :
  Calls Tryz.prog 126 #[.pointer (some ⟨b,o,none⟩),cfgV c] w fun e w'=>Tells w F b o (sendAgain c s) e w':=by
 have hlt:=h.lt
 have hne:b ≠ w.heap.size:=by omega
 have hne1:b ≠ w.heap.size + 1:=by omega
 have HN:=hide h.nb
 have HCK:=hide hc
 have HMF:=hide hM
 have HBN:=hide hb
 have HR:Hid (StAt ((w.alloc (.cells (cfgCells c) 26)).alloc (.cells zeroEv 62)) F b o s ∧ Bes b o w ((w.alloc (.cells (cfgCells c) 26)).alloc (.cells zeroEv 62)) ∧ CfgAt ((w.alloc (.cells (cfgCells c) 26)).alloc (.cells zeroEv 62)) w.heap.size c ∧ Ev0 ((w.alloc (.cells (cfgCells c) 26)).alloc (.cells zeroEv 62)) (w.heap.size + 1)) :=
  ⟨(h.alloc _).alloc _,((Bes.refl b o w).alloc hlt _).alloc (by simp; omega) _,(CfgAt.at rfl c).alloc _,EvAt.new (by simp) _ _ _ _ _ _⟩
 clear h hc hM hb
 unfold cfgV
 go_enter Tryz.func126,Tryz.ntmps126
 go_wp2_with fail
 refine wp_at (fun W=>StAt W F b o s ∧ Bes b o w W ∧ CfgAt W w.heap.size c ∧ Ev0 W (w.heap.size + 1)) HR.out ?_
 rintro W ⟨h0,B0,C0,E0⟩
 have c8:=h0.tries
 have c10:=h0.free
 have f8:=h0.fz (o + 8)
 have f10:=h0.fz (o + 10)
 obtain ⟨k0,k1,k2,k3,k4,k5,k6,k7,k8,k9⟩:=C0.all
 have HS:=hide h0
 have HB:=hide B0
 have HC:=hide C0
 have HV:=hide E0
 have hz:=E0.lt
 clear h0 B0 C0 E0
 by_cases hw:s.tries > c.tries
 ·have HE:Hid (sendAgain c s = finish 3 s):=by simp [Hid,sendAgain,hw]
  have hw':(c.tries:Int) < (s.tries:Int):=by omega
  go_quiet (fail)
  go_wp2_with fail
  refine (finish_any F b o _ 3 _ (HS.out.drewN nq) hj hm hn).mono ?_
  rintro e w2 ⟨rfl,h2,b2⟩
  have HV2:=hide (HV.out.bes ((Bes.refl b o W).drewN nq |>.trans b2) hne1)
  have HB2:=hide ((HB.out.drewN nq).trans b2)
  obtain ⟨⟨x0,x1,x2,x3,x4,x5⟩,q0,q1,q2,q3,q4,q5⟩:=HV2.out.all
  have H2:=hide h2
  clear h2 b2 c8 c10 f8 f10 k0 k1 k2 k3 k4 k5 k6 k7 k8 k9
  simp only [finish,evV]
  go_wp2
  (try simp only [Exit.inBlock,Exit.then])
  refine bodyPost_ret (results_ev rfl _ _ (w.heap.size + 1) rfl (EvAt.all HV2.out)) rfl ?_
  rw [HE.out]
  exact ⟨rfl,ev_end H2.out HB2.out (Plus.sub HB.out.size) (plus_ne hF (by omega) hz) (by omega) hlt HN.out _ _ _ _ _ _⟩
 ·have HE:Hid (sendAgain c s = (beginWait c (putBlock c { s with tries:=s.tries + 1,free:=false }),none)):=by simp [Hid,sendAgain,hw]
  have hw':¬ (c.tries:Int) < (s.tries:Int):=by omega
  go_quiet (fail)
  go_wp2_with fail
  refine (putBlock_any F b o _ c _ (((HS.out.drewN nq).tries' (s.tries + 1)).free' false) HCK.out hq hn HMF.out HBN.out).mono ?_
  rintro e w2 ⟨rfl,h2,b2⟩
  have b3:=(((((Bes.refl b o W).drewN nq).set 8 (by omega) (.int .i64 (s.tries + 1:Nat))).set 10 (by omega) (.bool false)).trans b2)
  have HC2:=hide (HC.out.bes b3 hne)
  have HV2:=hide (HV.out.bes b3 hne1)
  have HB2:=hide (HB.out.trans b3)
  have H2:=hide h2
  clear h2 b2 b3 c8 c10 f8 f10 k0 k1 k2 k3 k4 k5 k6 k7 k8 k9
  obtain ⟨k0,k1,k2,k3,k4,k5,k6,k7,k8,k9⟩:=HC2.out.all
  go_wp2_with fail
  refine (beginWait_any F b o _ c _ H2.out).mono ?_
  rintro e w4 ⟨rfl,h4,b4⟩
  have HV4:=hide (HV2.out.bes b4 hne1)
  have HB4:=hide (HB2.out.trans b4)
  obtain ⟨⟨x0,x1,x2,x3,x4,x5⟩,q0,q1,q2,q3,q4,q5⟩:=HV4.out.all
  have H4:=hide h4
  clear h4 b4 k0 k1 k2 k3 k4 k5 k6 k7 k8 k9
  go_wp2
  (try simp only [Exit.inBlock,Exit.then])
  refine bodyPost_ret (results_ev rfl _ _ (w.heap.size + 1) rfl (EvAt.all HV4.out)) rfl ?_
  rw [HE.out]
  exact ⟨rfl,ev_end H4.out HB4.out (fun _=>Or.inl) (own_ne hF (by omega)) (by omega) hlt HN.out _ _ _ _ _ _⟩
set_option maxRecDepth 1000000 in
theorem sendNext_any (F:Nat → Prop) (b o:Nat) (s:PS) (c:Cfg) (w:World) (h:StAt w F b o s) (hF:∀ x,F x → x < w.heap.size) (hc:c.Ok) (hq:s.q ≠ []) (hn:s.q.length ≤ 100) (hj:s.q.length ≤ s.joined) (hm:s.joined ≤ 1000000000000000) (hM:MsgFit (message s)) (hb:s.block < nblk c (message s)) :
  Calls Tryz.prog 125 #[.pointer (some ⟨b,o,none⟩),cfgV c] w fun e w'=>Tells w F b o (sendNext c s) e w':=by
 have hlt:=h.lt
 have hne:b ≠ w.heap.size:=by omega
 have hne1:b ≠ w.heap.size + 1:=by omega
 have HN:=hide h.nb
 have hkb:s.block ≤ 1000:=by
  rcases (block_lt hc s.block).1 hb with h | h
  ·omega
  ·have h1:s.block * 1 ≤ s.block * (c.size * c.parts):=Nat.mul_le_mul_left _ (Nat.mul_le_mul hc.size.1 hc.parts.1)
   have:=hM.2.1
   omega
 have HBO:Hid (∀ W,Calls Tryz.prog 142 #[.agg #[.string ⟨(message s).head.toArray⟩,.string ⟨(message s).text.toArray⟩,.bool (message s).clear],.int .i64 s.block,.agg #[.int .i64 c.check,.int .i64 c.size,.int .i64 c.parts,.int .i64 c.queue,.int .i64 c.first,.int .i64 c.second,.int .i64 c.reply,.int .i64 c.lost,.int .i64 c.tries,.int .i64 c.waits]] W fun e w'=>BlkPost W (blkAt c (message s) s.block) e w') :=
  fun W=>blockOf_any (message s) s.block c W hc hM.2.1 hb
 have HCK:=hide hc
 have HMF:=hide hM
 have HNX:Hid ((blkAt c (message s) s.block).last = false → s.block + 1 < nblk c (message s)):=by
  intro hl
  have:¬ s.block + 1 = nblk c (message s):=by
   intro e
   have h2:(blkAt c (message s) s.block).last = decide (s.block + 1 = nblk c (message s)):=rfl
   rw [hl,e] at h2
   simp at h2
  omega
 have HE:Hid (sendNext c s = if (blkAt c (message s) s.block).last then finish 2 s else (send (s.block + 1) c s,none)):=rfl
 have HR:Hid (StAt ((w.alloc (.cells (cfgCells c) 26)).alloc (.cells zeroEv 62)) F b o s ∧ Bes b o w ((w.alloc (.cells (cfgCells c) 26)).alloc (.cells zeroEv 62)) ∧ CfgAt ((w.alloc (.cells (cfgCells c) 26)).alloc (.cells zeroEv 62)) w.heap.size c ∧ Ev0 ((w.alloc (.cells (cfgCells c) 26)).alloc (.cells zeroEv 62)) (w.heap.size + 1)) :=
  ⟨(h.alloc _).alloc _,((Bes.refl b o w).alloc hlt _).alloc (by simp; omega) _,(CfgAt.at rfl c).alloc _,EvAt.new (by simp) _ _ _ _ _ _⟩
 clear h hc hM hb
 unfold cfgV
 go_enter Tryz.func125,Tryz.ntmps125
 go_wp2_with fail
 refine (message_any F b o s _ HR.out.1 hq hn).mono ?_
 rintro e w1 ⟨rfl,hb1⟩
 have H1:=hide (HR.out.1.below hb1)
 have C1:=hide (HR.out.2.2.1.below hb1)
 have B1:=hide (HR.out.2.1.below (by simp; omega) hb1)
 have V1:=hide (EvAt.below HR.out.2.2.2 hb1)
 unfold msgV
 generalize hM:message s = M at *
 have HM:=hide hM
 clear hM hb1
 go_wp2_with fail
 refine wp_at (fun W=>StAt W F b o s ∧ Bes b o w W ∧ CfgAt W w.heap.size c ∧ MsAt W w1.heap.size M ∧ Ev0 W (w.heap.size + 1)) ⟨H1.out.alloc _,B1.out.alloc H1.out.lt _,C1.out.alloc _,MsAt.at rfl M,EvAt.alloc V1.out _⟩ ?_
 rintro W0 ⟨h0,B0,C0,M0,V0⟩
 have PC:=pb_cells M0 C0 h0
 obtain ⟨⟨m0,m1,m2⟩,⟨k0,k1,k2,k3,k4,k5,k6,k7,k8,k9⟩,kb⟩:=PC
 have HPC:Hid (PbCells W0 w1.heap.size w.heap.size b o M c s.block):=pb_cells M0 C0 h0
 have H0:=hide h0
 have BB0:=hide B0
 have CC0:=hide C0
 have VV0:=hide V0
 clear h0 B0 C0 M0 V0
 go_region_held3 (fun W=>Below W0.heap.size W0 W ∧ (W.cell? ⟨w1.heap.size,0,none⟩ = some (.string ⟨M.head.toArray⟩) ∧ W.cell? ⟨w1.heap.size,1,none⟩ = some (.string ⟨M.text.toArray⟩) ∧ W.cell? ⟨w1.heap.size,2,none⟩ = some (.bool M.clear)) ∧
   (W.cell? ⟨w.heap.size,0,none⟩ = some (.int .i64 c.check) ∧ W.cell? ⟨w.heap.size,1,none⟩ = some (.int .i64 c.size) ∧ W.cell? ⟨w.heap.size,2,none⟩ = some (.int .i64 c.parts) ∧ W.cell? ⟨w.heap.size,3,none⟩ = some (.int .i64 c.queue) ∧ W.cell? ⟨w.heap.size,4,none⟩ = some (.int .i64 c.first) ∧
    W.cell? ⟨w.heap.size,5,none⟩ = some (.int .i64 c.second) ∧ W.cell? ⟨w.heap.size,6,none⟩ = some (.int .i64 c.reply) ∧ W.cell? ⟨w.heap.size,7,none⟩ = some (.int .i64 c.lost) ∧ W.cell? ⟨w.heap.size,8,none⟩ = some (.int .i64 c.tries) ∧ W.cell? ⟨w.heap.size,9,none⟩ = some (.int .i64 c.waits)) ∧
   W.cell? ⟨b,o + 11,none⟩ = some (.int .i64 s.block))
  ((refine (fun hb=>⟨hb,PbCells.below HPC.out hb⟩:Below W0.heap.size W0 _ → _) ?_; repeat' (with_reducible (first | apply Below.drew | apply below_drewN | apply Below.allocN | (refine Below.setN ?_ (by omega) _ _) | exact Below.refl _ _ | refine below_step ?_ hb2))))
  (first | (go_at_call 142; refine (HBO.out _).mono ?_; rintro e w2 ⟨v,lb,rfl,hown,HD,hb2⟩; obtain ⟨a,cap,rfl,_⟩:=hown.texts; first | (have Z:BlkAt w2 W0.heap.size (.string ⟨#[]⟩) (.slice none 0 0) (.bool false) (.bool false):=BlkAt.below (BlkAt.atD rfl _ _ _ _) hb2 (by simp); have z0:=Z.cell0; have z1:=Z.cell1; have z2:=Z.cell2; have z3:=Z.cell3; have y0:=Z.fz 0; have y1:=Z.fz 1; have y2:=Z.fz 2; have y3:=Z.fz 3) | skip))
 ·refine exit_at (fun W=>Below W0.heap.size W0 W ∧ BlkAt W w2.heap.size (.string ⟨(blkAt c M s.block).head.toArray⟩) (.slice a lb.length cap) (.bool (blkAt c M s.block).clear) (.bool (blkAt c M s.block).last) ∧ OwnS W W0.heap.size (.slice a lb.length cap) lb) ⟨Below.allocN (below_drew_head hb2) _,BlkAt.at rfl _ _ _ _,hown.alloc _⟩ ?_
  rintro W5 ⟨hb5,X5,O5⟩
  have H5:=hide (H0.out.below hb5)
  have C5:=hide (CC0.out.below hb5)
  have B5:=hide (BB0.out.below H0.out.lt hb5)
  have V5:=hide (EvAt.below VV0.out hb5)
  have p3:=X5.cell3
  clear m0 m1 m2 k0 k1 k2 k3 k4 k5 k6 k7 k8 k9 kb hb5 X5 O5
  cases hla:(blkAt c M s.block).last
  ·rw [hla] at p3
   have HE2:Hid (sendNext c s = (send (s.block + 1) c s,none)):=by rw [Hid,HE.out,hla]; rfl
   have HNX2:=hide (HNX.out hla)
   have kb:=H5.out.block
   obtain ⟨k0,k1,k2,k3,k4,k5,k6,k7,k8,k9⟩:=C5.out.all
   clear HE HNX hla
   go_wp2_with fail
   refine (send_any F b o s (s.block + 1) c _ H5.out HCK.out hq hn (by rw [HM.out]; exact HMF.out) (by rw [HM.out]; exact HNX2.out)).mono ?_
   rintro e w4 ⟨rfl,h4,b4⟩
   have HV4:=hide (Ev0.bes V5.out b4 hne1)
   have HB4:=hide (B5.out.trans b4)
   obtain ⟨⟨x0,x1,x2,x3,x4,x5⟩,q0,q1,q2,q3,q4,q5⟩:=HV4.out.all
   have H4:=hide h4
   clear h4 b4 k0 k1 k2 k3 k4 k5 k6 k7 k8 k9 kb p3
   go_wp2
   (try simp only [Exit.inBlock,Exit.then])
   refine bodyPost_ret (results_ev rfl _ _ (w.heap.size + 1) rfl (EvAt.all HV4.out)) rfl ?_
   rw [HE2.out]
   exact ⟨rfl,ev_end H4.out HB4.out (fun _=>Or.inl) (own_ne hF (by omega)) (by omega) hlt HN.out _ _ _ _ _ _⟩
  ·rw [hla] at p3
   have HE2:Hid (sendNext c s = finish 2 s):=by rw [Hid,HE.out,hla]; rfl
   have hz:=EvAt.lt V5.out
   clear HE HNX hla
   go_wp2_with fail
   refine (finish_any F b o s 2 _ H5.out hj hm hn).mono ?_
   rintro e w4 ⟨rfl,h4,b4⟩
   have HV4:=hide (Ev0.bes V5.out b4 hne1)
   have HB4:=hide (B5.out.trans b4)
   obtain ⟨⟨x0,x1,x2,x3,x4,x5⟩,q0,q1,q2,q3,q4,q5⟩:=HV4.out.all
   have H4:=hide h4
   clear h4 b4 p3
   simp only [finish,evV]
   go_wp2
   (try simp only [Exit.inBlock,Exit.then])
   refine bodyPost_ret (results_ev rfl _ _ (w.heap.size + 1) rfl (EvAt.all HV4.out)) rfl ?_
   rw [HE2.out]
   exact ⟨rfl,ev_end H4.out HB4.out (Plus.sub B5.out.size) (plus_ne hF (by omega) hz) (by omega) hlt HN.out _ _ _ _ _ _⟩
 ·refine exit_at (fun W=>Below W0.heap.size W0 W ∧ BlkAt W W0.heap.size (.string ⟨(blkAt c M s.block).head.toArray⟩) (.slice a lb.length cap) (.bool (blkAt c M s.block).clear) (.bool (blkAt c M s.block).last) ∧ OwnS W W0.heap.size (.slice a lb.length cap) lb) ⟨?_,BlkAt.all Z,?_⟩ ?_
  ·have hb3:Below W0.heap.size W0 w2:=(Below.drew (Below.allocN (Below.refl _ _) _)).trans (hb2.mono (by simp))
   exact Below.setN (Below.setN (Below.setN (Below.setN hb3 (Nat.le_refl _) _ _) (Nat.le_refl _) _ _) (Nat.le_refl _) _ _) (Nat.le_refl _) _ _
  ·have O2:OwnS w2 (W0.heap.size + 1) (.slice a lb.length cap) lb:=hown.mono (by simp)
   exact ((((O2.setCell (by omega)).setCell (by omega)).setCell (by omega)).setCell (by omega)).mono (by omega)
  clear z0 z1 z2 z3 y0 y1 y2 y3
  rintro W5 ⟨hb5,X5,O5⟩
  have H5:=hide (H0.out.below hb5)
  have C5:=hide (CC0.out.below hb5)
  have B5:=hide (BB0.out.below H0.out.lt hb5)
  have V5:=hide (EvAt.below VV0.out hb5)
  have p3:=X5.cell3
  clear m0 m1 m2 k0 k1 k2 k3 k4 k5 k6 k7 k8 k9 kb hb5 X5 O5
  cases hla:(blkAt c M s.block).last
  ·rw [hla] at p3
   have HE2:Hid (sendNext c s = (send (s.block + 1) c s,none)):=by rw [Hid,HE.out,hla]; rfl
   have HNX2:=hide (HNX.out hla)
   have kb:=H5.out.block
   obtain ⟨k0,k1,k2,k3,k4,k5,k6,k7,k8,k9⟩:=C5.out.all
   clear HE HNX hla
   go_wp2_with fail
   refine (send_any F b o s (s.block + 1) c _ H5.out HCK.out hq hn (by rw [HM.out]; exact HMF.out) (by rw [HM.out]; exact HNX2.out)).mono ?_
   rintro e w4 ⟨rfl,h4,b4⟩
   have HV4:=hide (Ev0.bes V5.out b4 hne1)
   have HB4:=hide (B5.out.trans b4)
   obtain ⟨⟨x0,x1,x2,x3,x4,x5⟩,q0,q1,q2,q3,q4,q5⟩:=HV4.out.all
   have H4:=hide h4
   clear h4 b4 k0 k1 k2 k3 k4 k5 k6 k7 k8 k9 kb p3
   go_wp2
   (try simp only [Exit.inBlock,Exit.then])
   refine bodyPost_ret (results_ev rfl _ _ (w.heap.size + 1) rfl (EvAt.all HV4.out)) rfl ?_
   rw [HE2.out]
   exact ⟨rfl,ev_end H4.out HB4.out (fun _=>Or.inl) (own_ne hF (by omega)) (by omega) hlt HN.out _ _ _ _ _ _⟩
  ·rw [hla] at p3
   have HE2:Hid (sendNext c s = finish 2 s):=by rw [Hid,HE.out,hla]; rfl
   have hz:=EvAt.lt V5.out
   clear HE HNX hla
   go_wp2_with fail
   refine (finish_any F b o s 2 _ H5.out hj hm hn).mono ?_
   rintro e w4 ⟨rfl,h4,b4⟩
   have HV4:=hide (Ev0.bes V5.out b4 hne1)
   have HB4:=hide (B5.out.trans b4)
   obtain ⟨⟨x0,x1,x2,x3,x4,x5⟩,q0,q1,q2,q3,q4,q5⟩:=HV4.out.all
   have H4:=hide h4
   clear h4 b4 p3
   simp only [finish,evV]
   go_wp2
   (try simp only [Exit.inBlock,Exit.then])
   refine bodyPost_ret (results_ev rfl _ _ (w.heap.size + 1) rfl (EvAt.all HV4.out)) rfl ?_
   rw [HE2.out]
   exact ⟨rfl,ev_end H4.out HB4.out (Plus.sub B5.out.size) (plus_ne hF (by omega) hz) (by omega) hlt HN.out _ _ _ _ _ _⟩
end Go.Proofs.YtlbpjcphhocdkaaGreat
