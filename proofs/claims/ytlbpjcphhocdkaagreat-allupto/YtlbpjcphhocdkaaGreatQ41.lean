/- The check bytes, as they are asked for. The law Sums, walked. The law's own functions over lists of texts: a list with spare room in which marks stand, and whether it is still so. The law Encodes, walked: the program's .. -/
import Derived.Test.YtlbpjcphhocdkaaGreatQ01
import Derived.Test.YtlbpjcphhocdkaaGreatQ14
import Derived.Laws.CopyOwn
import Derived.Test.YtlbpjcphhocdkaaGreatQ15
set_option maxRecDepth 1000000
set_option maxHeartbeats 16000000
namespace Go.Proofs.YtlbpjcphhocdkaaGreat
open Go.RowKit
theorem sum_any (s:ByteArray) (c:Int) (w:World) (hs:s.size ≤ 140737488352000) :
  Calls Tryz.prog 39 #[.string s,.int .i64 c] w fun e w'=>e = .returned (.tuple #[.string ⟨(Crc.sumS c s.data.toList).toArray⟩,.int .i64 (Crc.sumE c)]) ∧ Below w.heap.size w w':=by
 by_cases hc:c = 0 ∨ c = 1
 ·have hd:decide (c = 0 ∨ c = 1) = true:=by simp [hc]
  have e2:Crc.sumE c = 0:=by rcases hc with rfl | rfl <;> rfl
  rw [e2]
  have HD:Hid (decide (c = 0 ∨ c = 1) = true):=hd
  have HC:Hid (c = 0 ∨ c = 1):=hc
  clear hd hc e2
  go_enter Tryz.func39,Tryz.ntmps39
  go_wp2_with (first | (go_at_call 67; refine (isCheck_any c _).mono ?_; rintro e w1 ⟨rfl,rfl⟩; rw [HD.out]) | (go_at_call 68; refine (checkBytes_any s c _ hs HC.out).mono ?_; rintro e w2 ⟨rfl,hb2⟩))
  go_ret2
  exact ⟨rfl,by assumption⟩
 ·have hd:decide (c = 0 ∨ c = 1) = false:=by simp [hc]
  have n0:c ≠ 0:=fun h=>hc (Or.inl h)
  have n1:c ≠ 1:=fun h=>hc (Or.inr h)
  have e1:Crc.sumS c s.data.toList = []:=by simp [Crc.sumS,n0,n1]
  have e2:Crc.sumE c = 1:=by simp [Crc.sumE,n0,n1]
  rw [e1,e2]
  have HD:Hid (decide (c = 0 ∨ c = 1) = false):=hd
  clear hd hc e1 e2 n0 n1
  go_enter Tryz.func39,Tryz.ntmps39
  go_wp2_with (first | (go_at_call 67; refine (isCheck_any c _).mono ?_; rintro e w1 ⟨rfl,rfl⟩; rw [HD.out]))
  go_ret2
  exact ⟨rfl,Below.refl _ _⟩
theorem sums_walk (s:ByteArray) (c:Int) (w:World) (hs:s.size ≤ 1048576) :
  Calls Tryz.prog 20 #[.string s,.int .i64 c] w fun e w'=>e = .returned (.bool true) ∧ Below w.heap.size w w':=by
 go_enter Tryz.func20,Tryz.ntmps20
 go_wp2_with (first | (go_at_call 39; refine (sum_any s c _ (by omega)).mono ?_; rintro e w1 ⟨rfl,hb1⟩) | (go_at_call 40; refine (refSum_any s c _ (by omega)).mono ?_; rintro e w2 ⟨rfl,hb2⟩))
 go_ret
 exact ⟨rfl,below_step (by assumption) (by assumption)⟩
end Go.Proofs.YtlbpjcphhocdkaaGreat
namespace Go.Proofs.YtlbpjcphhocdkaaGreat
open Go.RowKit Go.Joins
def markS:ByteArray:=⟨#[116,104,101,32,99,97,108,108,101,114,39,115]⟩
theorem run_make_str (w:World) (n:Nat) (m:Int) (hm:m = (n:Int)) (hn:n ≤ 10000000000000) :
  (Instr.makeSlice 37 (.int .i64 m) (.int .i64 m)).run Tryz.prog w = .ok (.slice (some ⟨w.heap.size,0,none⟩) n n) (w.alloc (.cells (List.replicate n (Value.string ⟨#[]⟩)).toArray 9)):=by
 obtain ⟨i0,hi,hz0,hz1,hz2⟩:=info_parts Tryz.infoStr
 subst hm
 have h:=run_make (P:=Tryz.prog) w 37 9 i0 (.string ⟨#[]⟩) Tryz.underlying37 hi hz0 .i64 .i64 n n (by omega) (by omega) (by rw [hz2]; omega) (by omega)
 rw [h,hz1]
 simp only [Int.toNat_natCast,Nat.mul_one]
 congr 3
 apply Array.ext'
 have:=toList_madeCells_one (.string ⟨#[]⟩) n
 rw [show (Value.string ⟨#[]⟩).cells = #[.string ⟨#[]⟩] from rfl,this]
/-- Block g holds the texts l and two marks behind them. -/
def Roomy (w:World) (g:Nat) (l:List ByteArray):Prop:=w.heap[g]? = some (.cells (l.map Value.string ++ [Value.string markS,Value.string markS]).toArray 9 (0,0))
theorem texts_src {w:World} {a:Option Addr} {l:List ByteArray} (h:Texts w a l) (h0:0 < (l.map Value.string).length) :
  ∃ ad,a = some ad ∧ ∀ j v,(l.map Value.string)[j]? = some v → w.cell? (ad.add j) = some v:=by
 rcases h with h | ⟨b,o,rfl,h⟩
 ·subst h; simp at h0
 ·refine ⟨_,rfl,fun j v hj=>?_⟩
  rw [List.getElem?_map] at hj
  cases hl:l[j]? with
  | none=>rw [hl] at hj; simp at hj
  | some s =>
   rw [hl] at hj
   simp at hj
   subst hj
   have hjl:j < l.length:=(List.getElem?_eq_some_iff.1 hl).1
   rw [Addr.add_lit,h j hjl]
   simp [List.getD,hl]
theorem splice_eq (l:List ByteArray) (e:Value):splice (List.replicate (l.length + 2) e) 0 (l.map Value.string) = l.map Value.string ++ [e,e]:=by
 unfold splice
 simp [List.drop_replicate]
theorem splice_room {w:World} {g:Nat} {l:List ByteArray} (h:w.heap[g]? = some (.cells (splice (List.replicate (l.length + 2) (Value.string ⟨#[]⟩)) 0 (l.map Value.string)).toArray 9 (0,0))) :
  w.cell? ⟨g,l.length,none⟩ = some (.string ⟨#[]⟩) ∧ w.cell? ⟨g,l.length + 1,none⟩ = some (.string ⟨#[]⟩) ∧ w.frozen? ⟨g,l.length,none⟩ = false ∧ w.frozen? ⟨g,l.length + 1,none⟩ = false ∧
  Roomy ((w.setCell ⟨g,l.length,none⟩ (.string markS)).setCell ⟨g,l.length + 1,none⟩ (.string markS)) g l:=by
 rw [splice_eq] at h
 refine ⟨?_,?_,unfrozen_of_block h _,unfrozen_of_block h _,?_⟩
 ·rw [cell_of_block h]; simp
 ·rw [cell_of_block h]; simp
 ·have h1:=block_setCell (i:=l.length) h (.string markS)
  have h2:=block_setCell (i:=l.length + 1) h1 (.string markS)
  unfold Roomy
  rw [h2]
  simp
theorem roomy_any (a:Option Addr) (l:List ByteArray) (cap:Nat) (w:World) (hn:l.length ≤ 9000000000000) (ht:Texts w a l) :
  Calls Tryz.prog 44 #[.slice a l.length cap] w fun e w'=>e = .returned (.slice (some ⟨w.heap.size,0,none⟩) l.length (l.length + 2)) ∧ Roomy w' w.heap.size l ∧ Below w.heap.size w w':=by
 have hmk:=run_make_str w (l.length + 2) ((l.length:Int) + 2) (by omega) (by omega)
 have hg0:(w.alloc (.cells (List.replicate (l.length + 2) (Value.string ⟨#[]⟩)).toArray 9)).heap[w.heap.size]? = some (.cells (List.replicate (l.length + 2) (Value.string ⟨#[]⟩)).toArray 9 (0,0)):=heap_alloc_new w _
 have hb0:Below w.heap.size w (w.alloc (.cells (List.replicate (l.length + 2) (Value.string ⟨#[]⟩)).toArray 9)):=(Below.refl _ _).alloc (Nat.le_refl _) _
 have ht1:=ht.below hb0
 generalize hW:w.alloc (.cells (List.replicate (l.length + 2) (Value.string ⟨#[]⟩)).toArray 9) = W0 at *
 have HG:=hide hg0
 have HT1:=hide ht1
 clear hW hg0 ht1 ht
 go_enter Tryz.func44,Tryz.ntmps44
 have a1:(l.map Value.string).length = Nat.min l.length (l.length + 2):=by simp only [List.length_map]; exact (Nat.min_eq_left (by omega)).symm
 have a3:0 + (l.map Value.string).length ≤ (List.replicate (l.length + 2) (Value.string ⟨#[]⟩)).length:=by simp
 have a4:∀ v ∈ l.map Value.string,v.oneCell' = true:=by intro v hv; obtain ⟨s,_,rfl⟩:=List.mem_map.1 hv; rfl
 have A1:=hide a1
 have A3:=hide a3
 have A4:=hide a4
 clear a1 a3 a4
 go_wp2_with (first | (refine wpList_copy_splice rfl (.tmp 10) (.tmp 11) 37 37 rfl 9 Tryz.underlying37 Tryz.sizeStr (some ⟨w.heap.size,0,none⟩) a (l.length + 2) (l.length + 2) l.length cap rfl rfl w.heap.size 0 _ 9 HG.out (l.map Value.string) A1.out (fun h0=>⟨rfl,texts_src HT1.out h0⟩) A3.out A4.out w.heap.size w hb0 (Nat.le_refl _) ?_; intro w1 HB1 hb1; have hr1:=splice_room HB1.out; have k0:=hr1.1; have k1:=hr1.2.1; have k2:=hr1.2.2.1; have k3:=hr1.2.2.2.1; have KR:=hide hr1.2.2.2.2; clear hr1))
 go_ret
 exact ⟨rfl,KR.out,(hb1.setCell (Nat.le_refl _) _).setCell (Nat.le_refl _) _⟩
theorem sameTexts_any (a a2:Option Addr) (l:List ByteArray) (cap cap2:Nat) (w:World) (hn:l.length ≤ 9000000000000) (ht:Texts w a l) (ht2:Texts w a2 l) :
  Calls Tryz.prog 76 #[.slice a l.length cap,.slice a2 l.length cap2] w fun e w'=>e = .returned (.bool true) ∧ ∃ n,w' = w.drewN n:=by
 have HT:=hide ht
 have HT2:=hide ht2
 clear ht ht2
 have hne:((l.length:Int) != (l.length:Int)) = false:=by simp
 go_enter Tryz.func76,Tryz.ntmps76
 go_wp2
 go_loopw [5] (fun i wr=>∃ k:Nat,k ≤ l.length ∧ i = .int .i64 k ∧ ∃ n,wr = w.drewN n) (fun i _=>l.length - (intOf i).toNat)
 case atStart=>exact ⟨0,by omega,rfl,0,rfl⟩
 case round =>
  obtain ⟨k,hk,rfl,n,rfl⟩:=hrel
  by_cases hlt:k < l.length
  ·have hlt':(k:Int) < (l.length:Int):=by omega
   have hk0:(0:Int) ≤ (k:Int):=by omega
   obtain ⟨b,o,rfl,hc⟩:∃ b o,a = some ⟨b,o,none⟩ ∧ w.cell? ⟨b,o + k,none⟩ = some (.string (l.getD k ByteArray.empty)):=by
    rcases HT.out with h | ⟨b,o,ha,h⟩
    ·subst h; simp at hlt
    ·exact ⟨b,o,ha,h k hlt⟩
   obtain ⟨b2,o2,rfl,hc2⟩:∃ b o,a2 = some ⟨b,o,none⟩ ∧ w.cell? ⟨b,o + k,none⟩ = some (.string (l.getD k ByteArray.empty)):=by
    rcases HT2.out with h | ⟨b,o,ha,h⟩
    ·subst h; simp at hlt
    ·exact ⟨b,o,ha,h k hlt⟩
   generalize l.getD k ByteArray.empty = s at *
   go_wp2
   go_quiet (fail)
   go_wp2
   go_roundw
   case rel=>exact ⟨k + 1,by omega,by go_num,_,rfl⟩
   case measure=>simp [intOf]; omega
  ·have hlt':¬ (k:Int) < (l.length:Int):=by omega
   go_wp2
   go_ret
   exact ⟨rfl,n,rfl⟩
theorem Roomy.texts {w:World} {g:Nat} {l:List ByteArray} (h:Roomy w g l):Texts w (some ⟨g,0,none⟩) l:=by
 refine Or.inr ⟨g,0,rfl,fun i hi=>?_⟩
 rw [cell_of_block h]
 simp [List.getElem?_append,hi,List.getD]
theorem Roomy.mark0 {w:World} {g:Nat} {l:List ByteArray} (h:Roomy w g l):w.cell? ⟨g,l.length,none⟩ = some (.string markS):=by
 rw [cell_of_block h]; simp
theorem Roomy.mark1 {w:World} {g:Nat} {l:List ByteArray} (h:Roomy w g l):w.cell? ⟨g,l.length + 1,none⟩ = some (.string markS):=by
 rw [cell_of_block h]; simp
theorem still_any (g:Nat) (a:Option Addr) (l:List ByteArray) (cap:Nat) (w:World) (hn:l.length ≤ 9000000000000) (hr:Roomy w g l) (ht:Texts w a l) :
  Calls Tryz.prog 47 #[.slice (some ⟨g,0,none⟩) l.length (l.length + 2),.slice a l.length cap] w fun e w'=>e = .returned (.bool true) ∧ ∃ n,w' = w.drewN n:=by
 have k0:=hr.mark0
 have k1:=hr.mark1
 have HT:=hide hr.texts
 have HT2:=hide ht
 unfold markS at k0 k1
 clear ht hr
 go_enter Tryz.func47,Tryz.ntmps47
 go_wp2_with (first | (go_at_call 76; refine (sameTexts_any _ _ l _ _ _ hn HT.out HT2.out).mono ?_; rintro e w1 ⟨rfl,n1,rfl⟩))
 go_ret
 exact ⟨rfl,_,rfl⟩
end Go.Proofs.YtlbpjcphhocdkaaGreat
namespace Go.Proofs.YtlbpjcphhocdkaaGreat
open Go.RowKit
theorem Roomy.below {w w':World} {g B:Nat} {l:List ByteArray} (h:Roomy w g l) (hb:Below B w w') (hg:g < B):Roomy w' g l:=(hb.block g hg).trans h
theorem Roomy.lt {w:World} {g:Nat} {l:List ByteArray} (h:Roomy w g l):g < w.heap.size:=lt_of_block h
theorem encodes_walk (h:ByteArray) (a:Option Addr) (l:List ByteArray) (cap:Nat) (c t:Bool) (k:Int) (w:World)
  (hh:h.size ≤ 140737488352000) (hl:∀ s ∈ l,s.size ≤ 140737488352000) (hn:l.length ≤ 9000000000000) (ht:Texts w a l) :
  Calls Tryz.prog 23 #[.agg #[.string h,.slice a l.length cap,.bool c,.bool t],.int .i64 k] w fun e w'=>e = .returned (.bool true) ∧ Below w.heap.size w w':=by
 have HB0:Hid (Below w.heap.size w ((w.alloc (.cells #[.string h,.slice a l.length cap,.bool c,.bool t] 57)).alloc (.cells #[.string h,.slice a l.length cap,.bool c,.bool t] 57))):=((Below.refl _ _).alloc (Nat.le_refl _) _).alloc (by simp) _
 have HT2:=hide (ht.below HB0.out)
 have HB1:=hide (BlkAt.new (w.alloc (.cells #[.string h,.slice a l.length cap,.bool c,.bool t] 57)) (.string h) (.slice a l.length cap) (.bool c) (.bool t))
 have HBA:Hid (BlkAt ((w.alloc (.cells #[.string h,.slice a l.length cap,.bool c,.bool t] 57)).alloc (.cells #[.string h,.slice a l.length cap,.bool c,.bool t] 57)) w.heap.size (.string h) (.slice a l.length cap) (.bool c) (.bool t)):=(Below.heap_alloc _ _ _ (by simp)).trans (heap_alloc_new w _)
 have HL:=hide hl
 have HT0:=hide ht
 clear hl ht
 go_enter Tryz.func23,Tryz.ntmps23
 go_wp2_with fail
 refine (roomy_any a l cap _ hn HT2.out).mono ?_
 rintro e w1 ⟨rfl,hr1,hb1⟩
 have hA1:=HBA.out.below hb1 (by simp; omega)
 have hC1:BlkAt w1 (w.heap.size + 1) (.string h) (.slice a l.length cap) (.bool c) (.bool t):=by
  have:=HB1.out.below hb1 (by simp)
  simpa using this
 have hw1:Below w.heap.size w w1:=below_step HB0.out hb1
 have c1:=hC1.cell1
 have q1:w1.frozen? ⟨w.heap.size + 1,1,none⟩ = false:=Go.Joins.unfrozen_of_block hC1 1
 simp only [World.size_alloc] at hr1
 have c0:=hC1.cell0
 have c2:=hC1.cell2
 have c3:=hC1.cell3
 have hr2:Roomy (w1.setCell ⟨w.heap.size + 1,1,none⟩ (.slice (some ⟨w.heap.size + 1 + 1,0,none⟩) l.length (l.length + 2))) (w.heap.size + 1 + 1) l:=(Below.heap_setCell _ _ _ _ (by simp)).trans hr1
 have hw2:Below w.heap.size w (w1.setCell ⟨w.heap.size + 1,1,none⟩ (.slice (some ⟨w.heap.size + 1 + 1,0,none⟩) l.length (l.length + 2))):=hw1.setCell (by simp) _
 have hA2:BlkAt (w1.setCell ⟨w.heap.size + 1,1,none⟩ (.slice (some ⟨w.heap.size + 1 + 1,0,none⟩) l.length (l.length + 2))) w.heap.size (.string h) (.slice a l.length cap) (.bool c) (.bool t):=(Below.heap_setCell _ _ _ _ (by simp)).trans hA1
 have hC2:BlkAt (w1.setCell ⟨w.heap.size + 1,1,none⟩ (.slice (some ⟨w.heap.size + 1 + 1,0,none⟩) l.length (l.length + 2))) (w.heap.size + 1) (.string h) (.slice (some ⟨w.heap.size + 1 + 1,0,none⟩) l.length (l.length + 2)) (.bool c) (.bool t):=by
  have:=Go.Joins.block_setCell (i:=1) hC1 (.slice (some ⟨w.heap.size + 1 + 1,0,none⟩) l.length (l.length + 2))
  exact this
 have HR2:=hide hr2
 have HW2:=hide hw2
 have HA2:=hide hA2
 have HC2:=hide hC2
 have hz1:w.heap.size + 1 + 1 < w1.heap.size:=hr1.lt
 clear hr2 hw2 hA2 hC2 hr1 hw1 hA1 hC1 hb1
 go_wp2_with fail
 refine (encode_any h _ l (l.length + 2) c t k _ hh HL.out (by omega) HR2.out.texts).mono ?_
 rintro e w3 ⟨rfl,hb3⟩
 have hr3:=HR2.out.below hb3 HR2.out.lt
 have hA3:=HA2.out.below hb3 (lt_of_block HA2.out)
 have hC3:=HC2.out.below hb3 (lt_of_block HC2.out)
 have hw3:=below_step HW2.out hb3
 have d0:=hA3.cell0
 have d1:=hA3.cell1
 have d2:=hA3.cell2
 have d3:=hA3.cell3
 have HR3:=hide hr3
 have HA3:=hide hA3
 have HC3:=hide hC3
 have HW3:=hide hw3
 clear hr3 hA3 hC3 hw3 c0 c1 c2 c3 q1 hb3
 go_wp2_with fail
 refine (refEncode_any h a l cap c t k _ hh HL.out (by omega) (HT0.out.below HW3.out)).mono ?_
 rintro e w4 ⟨rfl,hb4⟩
 have hr4:=HR3.out.below hb4 HR3.out.lt
 have d1:=(HA3.out.below hb4 (lt_of_block HA3.out)).cell1
 have f1:=(HC3.out.below hb4 (lt_of_block HC3.out)).cell1
 have hw4:=below_step HW3.out hb4
 have HR4:=hide hr4
 have HW4:=hide hw4
 clear hr4 hw4 hb4
 go_wp2_with fail
 refine (still_any _ a l cap _ hn HR4.out (HT0.out.below HW4.out)).mono ?_
 rintro e w5 ⟨rfl,n5,rfl⟩
 go_wp2
 go_ret
 exact ⟨rfl,below_drewN HW4.out n5⟩
end Go.Proofs.YtlbpjcphhocdkaaGreat
