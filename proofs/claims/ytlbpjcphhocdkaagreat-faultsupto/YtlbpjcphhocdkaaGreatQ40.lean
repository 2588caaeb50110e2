/- The document's line: a byte comes in, where station 1 alone has something on the line. The document's line: a byte is turned, where station 0 alone has something on the line. The document's line: a byte is turned, where .. -/
import Derived.Test.YtlbpjcphhocdkaaGreatQ39
import Derived.Test.YtlbpjcphhocdkaaGreatQ38
import Derived.Test.YtlbpjcphhocdkaaGreatQ36
set_option maxRecDepth 1000000
set_option maxHeartbeats 16000000
namespace Go.Proofs.YtlbpjcphhocdkaaGreat
open Go.RowKit Go.Proofs.YtlbpjcphhocdkaaGreat.Mod Go.Proofs.YtlbpjcphhocdkaaGreat.Pst
set_option linter.unusedVariables false
theorem rf1_noise (yb ob:Nat) (s:ByteArray) (k p v:Int) (w:World) (o1:w.cell? ⟨yb,12,none⟩ = some (.slice (some ⟨ob,0,none⟩) 2 2)) (o2:w.cell? ⟨ob,1,none⟩ = some (.string s)) (o3:w.cell? ⟨ob,0,none⟩ = some (.string ⟨#[]⟩)) (o4:w.frozen? ⟨ob,1,none⟩ = false) (hs0:s.data.toList ≠ []) (hs:s.size ≤ 320) (hne:yb ≠ ob) (n:Nat) (hk:k = 3) (hp:p = (n:Int)) (hn:n ≤ s.size) (hv:0 ≤ v ∧ v ≤ 255) (hl:s.size < 320) :
  Calls Tryz.prog 38 #[.pointer (some ⟨yb,0,none⟩),.int .i64 k,.int .i64 p,.int .i64 v] w fun e w'=>FPost ob 1 (faultOf s.data.toList k p v) w e w':=by
 subst hk hp
 have hsz:s.data.toList.length = s.size:=by simp
 have e1:s.toList.isEmpty = false:=by rw [ByteArray.toList_eq]; cases hl:s.data.toList with | nil=>exact absurd hl hs0 | cons _ _=>rfl
 have e1':¬ s.toList = []:=by rw [ByteArray.toList_eq]; exact hs0
 have hne':=Ne.symm hne
 have ly:=World.block_lt_of_cell? w _ o1
 have lo:=World.block_lt_of_cell? w _ o2
 simp only at ly lo
 have HF:Hid (faultOf s.data.toList 3 (n:Int) v = some (s.data.toList.take n ++ [UInt8.ofNat v.toNat] ++ s.data.toList.drop n)):=by
  unfold Hid faultOf
  rw [if_neg (by decide),if_neg (by decide),if_neg (by decide),if_pos rfl,if_pos (by omega)]
  simp
 have hbv:((UInt8.ofNat v.toNat).toNat:Int) = v:=by
  rw [UInt8.toNat_ofNat',Nat.mod_eq_of_lt (by omega:v.toNat < 2 ^ 8)]
  omega
 have cvA:=conv_cells (w.alloc (.cells #[.int .u8 v] 5)) w.heap.size 1 [UInt8.ofNat v.toNat] (fun j hj=>by
  obtain rfl:j = 0:=by simp at hj; omega
  simp; omega)
 have cvB:=conv_cells (w.alloc (.cells #[.int .u8 v] 5)).drew w.heap.size 1 [UInt8.ofNat v.toNat] (fun j hj=>by
  obtain rfl:j = 0:=by simp at hj; omega
  simp; omega)
 simp only [List.length_cons,List.length_nil,Nat.zero_add] at cvA cvB
 have HI1:Hid (Is (s.extract 0 n) (s.data.toList.take n)):=by have h:=is_cut s 0 n; rw [List.drop_zero,Nat.sub_zero] at h; exact h
 have HI2:=hide (is_tail' s n)
 have HIB:Hid (Is (⟨[UInt8.ofNat v.toNat].toArray⟩:ByteArray) [UInt8.ofNat v.toNat]):=rfl
 have hx1:(s.extract 0 n).size ≤ 1000:=by rw [HI1.out.size]; simp; omega
 have hx2:(s.extract n s.size).size ≤ 1000:=by rw [HI2.out.size]; simp; omega
 have hxb:(⟨[UInt8.ofNat v.toNat].toArray⟩:ByteArray).size ≤ 1:=Nat.le_refl 1
 generalize (⟨[UInt8.ofNat v.toNat].toArray⟩:ByteArray) = bb at *
 have q1:(w.alloc (.cells #[.int .u8 v] 5)).cell? ⟨yb,12,none⟩ = some (.slice (some ⟨ob,0,none⟩) 2 2):=(Below.cell (p:=⟨yb,12,none⟩) ((Below.refl _ w).alloc (Nat.le_refl _) _) ly).trans o1
 have q2:(w.alloc (.cells #[.int .u8 v] 5)).cell? ⟨ob,1,none⟩ = some (.string s):=(Below.cell (p:=⟨ob,1,none⟩) ((Below.refl _ w).alloc (Nat.le_refl _) _) lo).trans o2
 have q4:(w.alloc (.cells #[.int .u8 v] 5)).frozen? ⟨ob,1,none⟩ = false:=(Below.frozen (p:=⟨ob,1,none⟩) ((Below.refl _ w).alloc (Nat.le_refl _) _) lo).trans o4
 have HJ:Hid ((s.extract 0 n) ++ bb ++ (s.extract n s.size) = ⟨(s.data.toList.take n ++ [UInt8.ofNat v.toNat] ++ s.data.toList.drop n).toArray⟩):=(HI1.out.append HIB.out).append HI2.out
 have v1:(0:Int) ≤ v:=by omega
 have v2:v < 256:=by omega
 have n1:(0:Int) ≤ (n:Int):=by omega
 have n2:(n:Int) ≤ (s.size:Int):=by omega
 have l3:(s.size:Int) < 320:=by omega
 have hVm:v % 256 = v:=by omega
 clear hv hs0 hsz hbv
 go_enter Tryz.func38,Tryz.ntmps38
 go_wp2_with fail
 go_region
 rw [HJ.out]
 go_wp2
 go_ret
 exact fpost_yes HF.out ⟨rfl,w.alloc (.cells #[.int .u8 v] 5),(Below.refl _ _).alloc (Nat.le_refl _) _,Or.inr (by rw [World.setCell_alloc_past _ _ _ _ lo])⟩
set_option linter.unusedVariables false
theorem rf0_turn (yb ob:Nat) (s:ByteArray) (k p v:Int) (w:World) (o1:w.cell? ⟨yb,12,none⟩ = some (.slice (some ⟨ob,0,none⟩) 2 2)) (o2:w.cell? ⟨ob,0,none⟩ = some (.string s)) (o3:w.cell? ⟨ob,1,none⟩ = some (.string ⟨#[]⟩)) (o4:w.frozen? ⟨ob,0,none⟩ = false) (hs0:s.data.toList ≠ []) (hs:s.size ≤ 320) (hne:yb ≠ ob) (n:Nat) (hk:k = 2) (hp:p = (n:Int)) (hn:n < s.size) (hv:1 ≤ v ∧ v ≤ 255) :
  Calls Tryz.prog 38 #[.pointer (some ⟨yb,0,none⟩),.int .i64 k,.int .i64 p,.int .i64 v] w fun e w'=>FPost ob 0 (faultOf s.data.toList k p v) w e w':=by
 subst hk hp
 have hsz:s.data.toList.length = s.size:=by simp
 have e1:s.toList.isEmpty = false:=by rw [ByteArray.toList_eq]; cases hl:s.data.toList with | nil=>exact absurd hl hs0 | cons _ _=>rfl
 have e1':¬ s.toList = []:=by rw [ByteArray.toList_eq]; exact hs0
 have hne':=Ne.symm hne
 have ly:=World.block_lt_of_cell? w _ o1
 have lo:=World.block_lt_of_cell? w _ o2
 simp only at ly lo
 have hn':n < s.data.toList.length:=by omega
 have HF:Hid (faultOf s.data.toList 2 (n:Int) v = some (s.data.toList.set n (s.data.toList[n] ^^^ UInt8.ofNat v.toNat))):=by
  unfold Hid faultOf
  rw [if_neg (by decide),if_neg (by decide),if_pos rfl,if_pos (by omega)]
  simp [List.getD,List.getElem?_eq_getElem hn']
 have HX:=hide (xor_byte s.data.toList[n] v (by omega) (by omega))
 have hc:=cnv_new w w.heap.size s (Nat.le_refl _)
 have kc:=cnv_run w s
 have hb0:=hide (cnv_below w s)
 have hz:=Go.Lib.bytesWorld_size w 5 s
 generalize Go.Lib.bytesWorld w 5 s = W0 at *
 obtain ⟨g,cap,cur,e1x,_,hg,hcs,hl,ht⟩:=hc
 simp only [Value.slice.injEq,Option.some.injEq,Addr.mk.injEq,and_true] at e1x
 obtain ⟨e2,e4,e3⟩:=e1x
 clear e4
 subst e2
 rw [e3] at kc
 have c1:=any_cell hg ht n hn'
 have c2:W0.frozen? ⟨w.heap.size,n,none⟩ = false:=by
  simp only [World.frozen?,hg,Bool.and_eq_false_iff,decide_eq_false_iff_not]
  left; omega
 have HCL:Hid (∀ (j:Nat) (hj:j < (s.data.toList.set n (s.data.toList[n] ^^^ UInt8.ofNat v.toNat)).length),(W0.setCell ⟨w.heap.size,n,none⟩ (.int .u8 ((s.data.toList[n] ^^^ UInt8.ofNat v.toNat).toNat:Int))).cell? ⟨w.heap.size,j,none⟩ = some (.int .u8 (((s.data.toList.set n (s.data.toList[n] ^^^ UInt8.ofNat v.toNat))[j]).toNat:Int))):=fun j hj=>by
  rw [List.length_set] at hj
  by_cases hjn:n = j
  ·subst hjn
   rw [World.cell?_setCell_same _ _ _ c1]
   simp
  ·rw [World.cell?_setCell_other _ _ _ _ (by simp only [ne_eq,Addr.mk.injEq,not_and]; omega),any_cell hg ht j hj]
   simp [hjn]
 have p1:=(hb0.out.cell (p:=⟨yb,12,none⟩) ly).trans o1
 have p2:=(hb0.out.cell (p:=⟨ob,0,none⟩) lo).trans o2
 have p3:=(hb0.out.cell (p:=⟨ob,1,none⟩) lo).trans o3
 have p4:=(hb0.out.frozen (p:=⟨ob,0,none⟩) lo).trans o4
 have hny:w.heap.size ≠ yb:=by omega
 have hno:w.heap.size ≠ ob:=by omega
 have hxv:(s.data.toList[n].toNat:Int) = (s.data.toList[n].toNat:Int):=rfl
 clear hxv
 have hLL:Hid ((s.data.toList.set n (s.data.toList[n] ^^^ UInt8.ofNat v.toNat)).length = s.size):=by rw [Hid,List.length_set,hsz]
 generalize hLe:s.data.toList.set n (s.data.toList[n] ^^^ UInt8.ofNat v.toNat) = L at *
 have HLe:=hide hLe
 have HC1:=hide c1
 have v1:(0:Int) < v:=by omega
 have v2:v < 256:=by omega
 have n1:(0:Int) ≤ (n:Int):=by omega
 have n2:(n:Int) < (s.size:Int):=by omega
 rw [← HX.out] at HCL
 have hvm:v % 256 = v:=by omega
 rw [hvm] at HCL
 clear hvm
 generalize s.data.toList[n] = y at *
 clear hg ht hl hsz hz hcs e3 hv hn' hs0 hLe
 go_enter Tryz.func38,Tryz.ntmps38
 go_wp2_with fail
 refine wp_at (fun V=>Below w.heap.size w V ∧ (∀ (j:Nat) (hj:j < L.length),V.cell? ⟨w.heap.size,j,none⟩ = some (.int .u8 (L[j].toNat:Int))) ∧ V.cell? ⟨yb,12,none⟩ = some (.slice (some ⟨ob,0,none⟩) 2 2) ∧ V.cell? ⟨ob,0,none⟩ = some (.string s) ∧ V.frozen? ⟨ob,0,none⟩ = false) ⟨hb0.out.setCell (Nat.le_refl _) _,HCL.out,(cell_ne hny).trans p1,(cell_ne hno).trans p2,(World.frozen?_setCell _ _ _ _).trans p4⟩ ?_
 rintro V ⟨hbV,hcV,x1,x2,x4⟩
 have cv:=conv_cells V w.heap.size cap L hcV
 have cvd:=conv_cells V.drew w.heap.size cap L hcV
 rw [hLL.out] at cv cvd
 have HBV:=hide hbV
 clear hbV hcV o1 o2 o3 o4 p1 p2 p3 p4 kc c1 c2 HCL
 go_region
 go_wp2
 go_ret
 exact fpost_yes HF.out ⟨rfl,V,HBV.out,Or.inr rfl⟩
set_option linter.unusedVariables false
theorem rf1_turn (yb ob:Nat) (s:ByteArray) (k p v:Int) (w:World) (o1:w.cell? ⟨yb,12,none⟩ = some (.slice (some ⟨ob,0,none⟩) 2 2)) (o2:w.cell? ⟨ob,1,none⟩ = some (.string s)) (o3:w.cell? ⟨ob,0,none⟩ = some (.string ⟨#[]⟩)) (o4:w.frozen? ⟨ob,1,none⟩ = false) (hs0:s.data.toList ≠ []) (hs:s.size ≤ 320) (hne:yb ≠ ob) (n:Nat) (hk:k = 2) (hp:p = (n:Int)) (hn:n < s.size) (hv:1 ≤ v ∧ v ≤ 255) :
  Calls Tryz.prog 38 #[.pointer (some ⟨yb,0,none⟩),.int .i64 k,.int .i64 p,.int .i64 v] w fun e w'=>FPost ob 1 (faultOf s.data.toList k p v) w e w':=by
 subst hk hp
 have hsz:s.data.toList.length = s.size:=by simp
 have e1:s.toList.isEmpty = false:=by rw [ByteArray.toList_eq]; cases hl:s.data.toList with | nil=>exact absurd hl hs0 | cons _ _=>rfl
 have e1':¬ s.toList = []:=by rw [ByteArray.toList_eq]; exact hs0
 have hne':=Ne.symm hne
 have ly:=World.block_lt_of_cell? w _ o1
 have lo:=World.block_lt_of_cell? w _ o2
 simp only at ly lo
 have hn':n < s.data.toList.length:=by omega
 have HF:Hid (faultOf s.data.toList 2 (n:Int) v = some (s.data.toList.set n (s.data.toList[n] ^^^ UInt8.ofNat v.toNat))):=by
  unfold Hid faultOf
  rw [if_neg (by decide),if_neg (by decide),if_pos rfl,if_pos (by omega)]
  simp [List.getD,List.getElem?_eq_getElem hn']
 have HX:=hide (xor_byte s.data.toList[n] v (by omega) (by omega))
 have hc:=cnv_new w w.heap.size s (Nat.le_refl _)
 have kc:=cnv_run w s
 have hb0:=hide (cnv_below w s)
 have hz:=Go.Lib.bytesWorld_size w 5 s
 generalize Go.Lib.bytesWorld w 5 s = W0 at *
 obtain ⟨g,cap,cur,e1x,_,hg,hcs,hl,ht⟩:=hc
 simp only [Value.slice.injEq,Option.some.injEq,Addr.mk.injEq,and_true] at e1x
 obtain ⟨e2,e4,e3⟩:=e1x
 clear e4
 subst e2
 rw [e3] at kc
 have c1:=any_cell hg ht n hn'
 have c2:W0.frozen? ⟨w.heap.size,n,none⟩ = false:=by
  simp only [World.frozen?,hg,Bool.and_eq_false_iff,decide_eq_false_iff_not]
  left; omega
 have HCL:Hid (∀ (j:Nat) (hj:j < (s.data.toList.set n (s.data.toList[n] ^^^ UInt8.ofNat v.toNat)).length),(W0.setCell ⟨w.heap.size,n,none⟩ (.int .u8 ((s.data.toList[n] ^^^ UInt8.ofNat v.toNat).toNat:Int))).cell? ⟨w.heap.size,j,none⟩ = some (.int .u8 (((s.data.toList.set n (s.data.toList[n] ^^^ UInt8.ofNat v.toNat))[j]).toNat:Int))):=fun j hj=>by
  rw [List.length_set] at hj
  by_cases hjn:n = j
  ·subst hjn
   rw [World.cell?_setCell_same _ _ _ c1]
   simp
  ·rw [World.cell?_setCell_other _ _ _ _ (by simp only [ne_eq,Addr.mk.injEq,not_and]; omega),any_cell hg ht j hj]
   simp [hjn]
 have p1:=(hb0.out.cell (p:=⟨yb,12,none⟩) ly).trans o1
 have p2:=(hb0.out.cell (p:=⟨ob,1,none⟩) lo).trans o2
 have p3:=(hb0.out.cell (p:=⟨ob,0,none⟩) lo).trans o3
 have p4:=(hb0.out.frozen (p:=⟨ob,1,none⟩) lo).trans o4
 have hny:w.heap.size ≠ yb:=by omega
 have hno:w.heap.size ≠ ob:=by omega
 have hxv:(s.data.toList[n].toNat:Int) = (s.data.toList[n].toNat:Int):=rfl
 clear hxv
 have hLL:Hid ((s.data.toList.set n (s.data.toList[n] ^^^ UInt8.ofNat v.toNat)).length = s.size):=by rw [Hid,List.length_set,hsz]
 generalize hLe:s.data.toList.set n (s.data.toList[n] ^^^ UInt8.ofNat v.toNat) = L at *
 have HLe:=hide hLe
 have HC1:=hide c1
 have v1:(0:Int) < v:=by omega
 have v2:v < 256:=by omega
 have n1:(0:Int) ≤ (n:Int):=by omega
 have n2:(n:Int) < (s.size:Int):=by omega
 rw [← HX.out] at HCL
 have hvm:v % 256 = v:=by omega
 rw [hvm] at HCL
 clear hvm
 generalize s.data.toList[n] = y at *
 clear hg ht hl hsz hz hcs e3 hv hn' hs0 hLe
 go_enter Tryz.func38,Tryz.ntmps38
 go_wp2_with fail
 refine wp_at (fun V=>Below w.heap.size w V ∧ (∀ (j:Nat) (hj:j < L.length),V.cell? ⟨w.heap.size,j,none⟩ = some (.int .u8 (L[j].toNat:Int))) ∧ V.cell? ⟨yb,12,none⟩ = some (.slice (some ⟨ob,0,none⟩) 2 2) ∧ V.cell? ⟨ob,1,none⟩ = some (.string s) ∧ V.frozen? ⟨ob,1,none⟩ = false) ⟨hb0.out.setCell (Nat.le_refl _) _,HCL.out,(cell_ne hny).trans p1,(cell_ne hno).trans p2,(World.frozen?_setCell _ _ _ _).trans p4⟩ ?_
 rintro V ⟨hbV,hcV,x1,x2,x4⟩
 have cv:=conv_cells V w.heap.size cap L hcV
 have cvd:=conv_cells V.drew w.heap.size cap L hcV
 rw [hLL.out] at cv cvd
 have HBV:=hide hbV
 clear hbV hcV o1 o2 o3 o4 p1 p2 p3 p4 kc c1 c2 HCL
 go_region
 go_wp2
 go_ret
 exact fpost_yes HF.out ⟨rfl,V,HBV.out,Or.inr rfl⟩
set_option linter.unusedVariables false
theorem rf_none (yb ob:Nat) (k p v:Int) (w:World) (o1:w.cell? ⟨yb,12,none⟩ = some (.slice (some ⟨ob,0,none⟩) 2 2)) (o2:w.cell? ⟨ob,0,none⟩ = some (.string ⟨#[]⟩)) (o3:w.cell? ⟨ob,1,none⟩ = some (.string ⟨#[]⟩)) :
  Calls Tryz.prog 38 #[.pointer (some ⟨yb,0,none⟩),.int .i64 k,.int .i64 p,.int .i64 v] w fun e w'=>e = .returned (.int .i64 9) ∧ w' = w:=by
 go_enter Tryz.func38,Tryz.ntmps38
 go_wp2
 go_ret
 exact ⟨rfl,rfl⟩
theorem rf_both (yb ob:Nat) (s t:ByteArray) (k p v:Int) (w:World) (o1:w.cell? ⟨yb,12,none⟩ = some (.slice (some ⟨ob,0,none⟩) 2 2)) (o2:w.cell? ⟨ob,0,none⟩ = some (.string s)) (o3:w.cell? ⟨ob,1,none⟩ = some (.string t)) (hs0:s.data.toList ≠ []) (ht0:t.data.toList ≠ []) :
  Calls Tryz.prog 38 #[.pointer (some ⟨yb,0,none⟩),.int .i64 k,.int .i64 p,.int .i64 v] w fun e w'=>e = .returned (.int .i64 9) ∧ w' = w:=by
 have e1:s.toList.isEmpty = false:=by rw [ByteArray.toList_eq]; cases hl:s.data.toList with | nil=>exact absurd hl hs0 | cons _ _=>rfl
 have e1':¬ s.toList = []:=by rw [ByteArray.toList_eq]; exact hs0
 have e2:t.toList.isEmpty = false:=by rw [ByteArray.toList_eq]; cases hl:t.data.toList with | nil=>exact absurd hl ht0 | cons _ _=>rfl
 have e2':¬ t.toList = []:=by rw [ByteArray.toList_eq]; exact ht0
 clear hs0 ht0
 go_enter Tryz.func38,Tryz.ntmps38
 go_wp2
 go_ret
 exact ⟨rfl,rfl⟩
theorem rf0_any (yb ob:Nat) (s:ByteArray) (k p v:Int) (w:World) (o1:w.cell? ⟨yb,12,none⟩ = some (.slice (some ⟨ob,0,none⟩) 2 2)) (o2:w.cell? ⟨ob,0,none⟩ = some (.string s)) (o3:w.cell? ⟨ob,1,none⟩ = some (.string ⟨#[]⟩)) (o4:w.frozen? ⟨ob,0,none⟩ = false) (hs0:s.data.toList ≠ []) (hs:s.size ≤ 320) (hne:yb ≠ ob) :
  Calls Tryz.prog 38 #[.pointer (some ⟨yb,0,none⟩),.int .i64 k,.int .i64 p,.int .i64 v] w fun e w'=>FPost ob 0 (faultOf s.data.toList k p v) w e w':=by
 by_cases k0:k = 0
 ·exact rf0_lose yb ob s k p v w o1 o2 o3 o4 hs0 hs hne k0
 ·by_cases k1:k = 1
  ·by_cases h1:0 ≤ p
   ·by_cases h2:p ≤ (s.size:Int)
    ·exact rf0_cut yb ob s k p v w o1 o2 o3 o4 hs0 hs hne p.toNat k1 (by omega) (by omega)
    ·exact rf0_cut2 yb ob s k p v w o1 o2 o3 o4 hs0 hs hne k1 h1 h2
   ·exact rf0_cut1 yb ob s k p v w o1 o2 o3 o4 hs0 hs hne k1 h1
  ·by_cases k2:k = 2
   ·by_cases h1:0 ≤ p
    ·by_cases h2:p < (s.size:Int)
     ·by_cases h3:0 < v
      ·by_cases h4:v < 256
       ·exact rf0_turn yb ob s k p v w o1 o2 o3 o4 hs0 hs hne p.toNat k2 (by omega) (by omega) (by omega)
       ·exact rf0_turn4 yb ob s k p v w o1 o2 o3 o4 hs0 hs hne k2 h1 h2 h3 h4
      ·exact rf0_turn3 yb ob s k p v w o1 o2 o3 o4 hs0 hs hne k2 h1 h2 h3
     ·exact rf0_turn2 yb ob s k p v w o1 o2 o3 o4 hs0 hs hne k2 h1 h2
    ·exact rf0_turn1 yb ob s k p v w o1 o2 o3 o4 hs0 hs hne k2 h1
   ·by_cases k3:k = 3
    ·by_cases h1:0 ≤ p
     ·by_cases h2:p ≤ (s.size:Int)
      ·by_cases h3:0 ≤ v
       ·by_cases h4:v < 256
        ·by_cases h5:(s.size:Int) < 320
         ·exact rf0_noise yb ob s k p v w o1 o2 o3 o4 hs0 hs hne p.toNat k3 (by omega) (by omega) (by omega) (by omega)
         ·exact rf0_noise5 yb ob s k p v w o1 o2 o3 o4 hs0 hs hne k3 h1 h2 h3 h4 h5
        ·exact rf0_noise4 yb ob s k p v w o1 o2 o3 o4 hs0 hs hne k3 h1 h2 h3 h4
       ·exact rf0_noise3 yb ob s k p v w o1 o2 o3 o4 hs0 hs hne k3 h1 h2 h3
      ·exact rf0_noise2 yb ob s k p v w o1 o2 o3 o4 hs0 hs hne k3 h1 h2
     ·exact rf0_noise1 yb ob s k p v w o1 o2 o3 o4 hs0 hs hne k3 h1
    ·exact rf0_else yb ob s k p v w o1 o2 o3 o4 hs0 hs hne ⟨k0,k1,k2,k3⟩
theorem rf1_any (yb ob:Nat) (s:ByteArray) (k p v:Int) (w:World) (o1:w.cell? ⟨yb,12,none⟩ = some (.slice (some ⟨ob,0,none⟩) 2 2)) (o2:w.cell? ⟨ob,1,none⟩ = some (.string s)) (o3:w.cell? ⟨ob,0,none⟩ = some (.string ⟨#[]⟩)) (o4:w.frozen? ⟨ob,1,none⟩ = false) (hs0:s.data.toList ≠ []) (hs:s.size ≤ 320) (hne:yb ≠ ob) :
  Calls Tryz.prog 38 #[.pointer (some ⟨yb,0,none⟩),.int .i64 k,.int .i64 p,.int .i64 v] w fun e w'=>FPost ob 1 (faultOf s.data.toList k p v) w e w':=by
 by_cases k0:k = 0
 ·exact rf1_lose yb ob s k p v w o1 o2 o3 o4 hs0 hs hne k0
 ·by_cases k1:k = 1
  ·by_cases h1:0 ≤ p
   ·by_cases h2:p ≤ (s.size:Int)
    ·exact rf1_cut yb ob s k p v w o1 o2 o3 o4 hs0 hs hne p.toNat k1 (by omega) (by omega)
    ·exact rf1_cut2 yb ob s k p v w o1 o2 o3 o4 hs0 hs hne k1 h1 h2
   ·exact rf1_cut1 yb ob s k p v w o1 o2 o3 o4 hs0 hs hne k1 h1
  ·by_cases k2:k = 2
   ·by_cases h1:0 ≤ p
    ·by_cases h2:p < (s.size:Int)
     ·by_cases h3:0 < v
      ·by_cases h4:v < 256
       ·exact rf1_turn yb ob s k p v w o1 o2 o3 o4 hs0 hs hne p.toNat k2 (by omega) (by omega) (by omega)
       ·exact rf1_turn4 yb ob s k p v w o1 o2 o3 o4 hs0 hs hne k2 h1 h2 h3 h4
      ·exact rf1_turn3 yb ob s k p v w o1 o2 o3 o4 hs0 hs hne k2 h1 h2 h3
     ·exact rf1_turn2 yb ob s k p v w o1 o2 o3 o4 hs0 hs hne k2 h1 h2
    ·exact rf1_turn1 yb ob s k p v w o1 o2 o3 o4 hs0 hs hne k2 h1
   ·by_cases k3:k = 3
    ·by_cases h1:0 ≤ p
     ·by_cases h2:p ≤ (s.size:Int)
      ·by_cases h3:0 ≤ v
       ·by_cases h4:v < 256
        ·by_cases h5:(s.size:Int) < 320
         ·exact rf1_noise yb ob s k p v w o1 o2 o3 o4 hs0 hs hne p.toNat k3 (by omega) (by omega) (by omega) (by omega)
         ·exact rf1_noise5 yb ob s k p v w o1 o2 o3 o4 hs0 hs hne k3 h1 h2 h3 h4 h5
        ·exact rf1_noise4 yb ob s k p v w o1 o2 o3 o4 hs0 hs hne k3 h1 h2 h3 h4
       ·exact rf1_noise3 yb ob s k p v w o1 o2 o3 o4 hs0 hs hne k3 h1 h2 h3
      ·exact rf1_noise2 yb ob s k p v w o1 o2 o3 o4 hs0 hs hne k3 h1 h2
     ·exact rf1_noise1 yb ob s k p v w o1 o2 o3 o4 hs0 hs hne k3 h1
    ·exact rf1_else yb ob s k p v w o1 o2 o3 o4 hs0 hs hne ⟨k0,k1,k2,k3⟩
theorem FPost.use {ob i:Nat} {o:Option (List UInt8)} {w w':World} {e:Ending} {l:List UInt8} (h:FPost ob i o w e w'):e = .returned (.int .i64 (if o.isSome then 0 else 10)) ∧ ((o = none ∧ Below w.heap.size w w') ∨ ∃ l W,o = some l ∧ Below w.heap.size w W ∧ (w' = W.setCell ⟨ob,i,none⟩ (.string ⟨l.toArray⟩) ∨ w' = (W.setCell ⟨ob,i,none⟩ (.string ⟨l.toArray⟩)).drew)):=by
 cases o with
 | none=>exact ⟨h.1,Or.inl ⟨rfl,h.2⟩⟩
 | some l =>
  obtain ⟨he,W,hb,hw⟩:=h
  exact ⟨he,Or.inr ⟨l,W,rfl,hb,hw⟩⟩
theorem fault_step {F0:Nat → Prop} {A:RAd} {c:Cfg} {now:Nat} {r:RS} {on:List UInt8} {o:Option (List UInt8)} {w w':World} {e:Ending} (h:RAt w F0 A c now r on) (hp:FPost A.ob A.i o w e w'):e = .returned (.int .i64 (if o.isSome then 0 else 10)) ∧ RAt w' F0 A c now r (o.getD on) ∧ RB A w w':=by
 obtain ⟨he,hx⟩:=FPost.use (l:=[]) hp
 refine ⟨he,?_⟩
 rcases hx with ⟨rfl,hb⟩ | ⟨l,W,rfl,hb,hw⟩
 ·exact ⟨h.below hb,(RB.refl A w).below h.lob h.lsb hb⟩
 ·have h1:=(h.below hb).on' l
  have b1:=((RB.refl A w).below h.lob h.lsb hb).setO (.string ⟨l.toArray⟩)
  rcases hw with rfl | rfl
  ·exact ⟨h1,b1⟩
  ·exact ⟨h1.drew,b1.drew⟩
theorem bytes_nil {l:List UInt8} (h:l = []):(⟨l.toArray⟩:ByteArray) = ⟨#[]⟩:=by rw [h]
theorem rfault_line (F:Nat → Prop) (yb:Nat) (x:Ln) (k p v:Int) (w:World) (h:DocAt w F yb x) (hg:LGood x) :
  Calls Tryz.prog 38 #[.pointer (some ⟨yb,0,none⟩),.int .i64 k,.int .i64 p,.int .i64 v] w fun e w'=>e = .returned (.int .i64 (faultE x k p v)) ∧ DocAt w' (Plus F w) yb (faultL x k p v) ∧ Fr F w w':=by
 have h':=h
 obtain ⟨r0,r1,hl,hr,hzy⟩:=h
 have g0:=hg.o0
 have g1:=hg.o1
 obtain ⟨sl,ob,b0,b1,F0,F1,h0,h1,_⟩:=hl.at'
 have e0:∀ l:List UInt8,(⟨l.toArray⟩:ByteArray).data.toList = l:=fun l=>by simp
 by_cases z0:x.on0 = []
 ·by_cases z1:x.on1 = []
  ·have eE:faultE x k p v = 9:=by unfold faultE; rw [if_neg (fun q=>q.1 z0),if_neg (fun q=>q.2 z1)]
   have eL:faultL x k p v = x:=by unfold faultL; rw [if_neg (fun q=>q.1 z0),if_neg (fun q=>q.2 z1)]
   rw [eE,eL]
   refine (rf_none yb ob k p v w h0.onl (by have:=h0.on; rw [bytes_nil z0] at this; exact this) (by have:=h1.on; rw [bytes_nil z1] at this; exact this)).mono ?_
   rintro e w' ⟨rfl,rfl⟩
   exact ⟨rfl,h'.mono fun _=>Or.inl,Fr.refl _ _⟩
  ·have eE:faultE x k p v = if (faultOf x.on1 k p v).isSome then 0 else 10:=by unfold faultE; rw [if_neg (fun q=>q.1 z0),if_pos ⟨z0,z1⟩]
   have eL:faultL x k p v = { x with on1:=(faultOf x.on1 k p v).getD x.on1 }:=by unfold faultL; rw [if_neg (fun q=>q.1 z0),if_pos ⟨z0,z1⟩]
   rw [eE,eL]
   obtain ⟨sl,ob,b1,F1,k1,hF1,hlift⟩:=hl.one1
   obtain ⟨_,ob',_,_,_,_,q0,q1,_⟩:=hl.at'
   have hob:ob' = ob:=by
    have a:=q0.onl
    have b:=k1.onl
    rw [a] at b
    simpa using b
   subst hob
   have hon0:=q0.on
   rw [bytes_nil z0] at hon0
   refine (rf1_any yb ob' ⟨x.on1.toArray⟩ k p v w k1.onl k1.on hon0 (k1.zob 1) (by rw [e0]; exact z1) (by show x.on1.length ≤ 320; exact g1) k1.ok.h2).mono ?_
   rintro e w' hp
   rw [e0] at hp
   obtain ⟨he,k2,B⟩:=fault_step k1 hp
   obtain ⟨k3,k4⟩:=hlift w' _ _ (k2.mono (fun _=>Or.inl) (k1.okP (Nat.le_refl _))) B
   exact ⟨he,⟨r0,r1,k3,⟨hr.a,hr.b⟩,fun j=>(World.frozen?_of_block (B.block _ k1.lyb k1.ok.h3 k1.ok.h2)).trans (hzy j)⟩,k4⟩
 ·by_cases z1:x.on1 = []
  ·have eE:faultE x k p v = if (faultOf x.on0 k p v).isSome then 0 else 10:=by unfold faultE; rw [if_pos ⟨z0,z1⟩]
   have eL:faultL x k p v = { x with on0:=(faultOf x.on0 k p v).getD x.on0 }:=by unfold faultL; rw [if_pos ⟨z0,z1⟩]
   rw [eE,eL]
   obtain ⟨sl,ob,b0,F0,k1,hF1,hlift⟩:=hl.one0
   obtain ⟨_,ob',_,_,_,_,q0,q1,_⟩:=hl.at'
   have hob:ob' = ob:=by
    have a:=q1.onl
    have b:=k1.onl
    rw [a] at b
    simpa using b
   subst hob
   have hon1:=q1.on
   rw [bytes_nil z1] at hon1
   refine (rf0_any yb ob' ⟨x.on0.toArray⟩ k p v w k1.onl k1.on hon1 (k1.zob 0) (by rw [e0]; exact z0) (by show x.on0.length ≤ 320; exact g0) k1.ok.h2).mono ?_
   rintro e w' hp
   rw [e0] at hp
   obtain ⟨he,k2,B⟩:=fault_step k1 hp
   obtain ⟨k3,k4⟩:=hlift w' _ _ (k2.mono (fun _=>Or.inl) (k1.okP (Nat.le_refl _))) B
   exact ⟨he,⟨r0,r1,k3,⟨hr.a,hr.b⟩,fun j=>(World.frozen?_of_block (B.block _ k1.lyb k1.ok.h3 k1.ok.h2)).trans (hzy j)⟩,k4⟩
  ·have eE:faultE x k p v = 9:=by unfold faultE; rw [if_neg (fun q=>z1 q.2),if_neg (fun q=>z0 q.1)]
   have eL:faultL x k p v = x:=by unfold faultL; rw [if_neg (fun q=>z1 q.2),if_neg (fun q=>z0 q.1)]
   rw [eE,eL]
   refine (rf_both yb ob ⟨x.on0.toArray⟩ ⟨x.on1.toArray⟩ k p v w h0.onl h0.on h1.on (by rw [e0]; exact z0) (by rw [e0]; exact z1)).mono ?_
   rintro e w' ⟨rfl,rfl⟩
   exact ⟨rfl,h'.mono fun _=>Or.inl,Fr.refl _ _⟩
end Go.Proofs.YtlbpjcphhocdkaaGreat
