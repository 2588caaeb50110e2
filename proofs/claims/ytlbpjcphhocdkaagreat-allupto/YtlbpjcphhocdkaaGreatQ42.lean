/- The law Reads: its own functions: are two answers the same, a list written full, does it still hold marks alone. The law Reads, walked: every Read, twice; what came out the first time is written full by its owner in .. -/
import Derived.Test.YtlbpjcphhocdkaaGreatQ02
import Derived.Test.YtlbpjcphhocdkaaGreatQ41
import Derived.Test.YtlbpjcphhocdkaaGreatQ18
import Derived.Test.YtlbpjcphhocdkaaGreatQ01
import Derived.ProofKit
import Derived.OpenShut
import Derived.ShutString
import Derived.SliceStrings
import Derived.SizedLaws
import Derived.Lib.SmallJoins
set_option maxRecDepth 1000000
set_option maxHeartbeats 16000000
namespace Go.Proofs.YtlbpjcphhocdkaaGreat
open Go.RowKit
theorem sameHeard_any (n:Nat) (h:ByteArray) (a a2:Option Addr) (l:List ByteArray) (cap cap2:Nat) (c t:Bool) (w:World) (hn:l.length ≤ 9000000000000) (ht:Texts w a l) (ht2:Texts w a2 l) :
  Calls Tryz.prog 50 #[.agg #[.int .i64 n,.string h,.slice a l.length cap,.bool c,.bool t],.agg #[.int .i64 n,.string h,.slice a2 l.length cap2,.bool c,.bool t]] w fun e w'=>e = .returned (.bool true) ∧ Below w.heap.size w w':=by
 have hce:(c == c) = true:=by cases c <;> rfl
 have hte:(t == t) = true:=by cases t <;> rfl
 have hne:((n:Int) == (n:Int)) = true:=by simp
 have hb1:Below w.heap.size w (w.alloc (.cells #[.int .i64 n,.string h,.slice a l.length cap,.bool c,.bool t] 98)):=(Below.refl _ _).alloc (Nat.le_refl _) _
 have hb2:=hb1.alloc (by simp) (.cells #[.int .i64 n,.string h,.slice a2 l.length cap2,.bool c,.bool t] 98)
 have HT:=hide (ht.below hb2)
 have HT2:=hide (ht2.below hb2)
 have HB2:=hide hb2
 clear hb1 hb2 ht ht2
 go_enter Tryz.func50,Tryz.ntmps50
 go_wp2_with (first | (go_at_call 76; refine (sameTexts_any _ _ l _ _ _ hn HT.out HT2.out).mono ?_; rintro e w1 ⟨rfl,n1,rfl⟩))
 go_ret
 exact ⟨rfl,below_drewN HB2.out _⟩
/-- The list at block g holds marks alone,up to cap. -/
def MarkTo (w:World) (g cap k:Nat):Prop:=∃ cur,w.heap[g]? = some (.cells cur 9 (0,0)) ∧ cur.size = cap ∧ ∀ j,j < k → cur[j]? = some (.string markS)
theorem MarkTo.step {w:World} {g cap k:Nat} (h:MarkTo w g cap k) (hk:k < cap):MarkTo (w.setCell ⟨g,k,none⟩ (.string markS)) g cap (k + 1):=by
 obtain ⟨cur,hg,hc,hm⟩:=h
 refine ⟨cur.setIfInBounds k (.string markS),Go.Joins.block_setCell (i:=k) hg (.string markS),by simpa using hc,fun j hj=>?_⟩
 by_cases hjk:j = k
 ·subst hjk; simp [hc,hk]
 ·rw [Array.getElem?_setIfInBounds_ne (by omega)]
  exact hm j (by omega)
theorem MarkTo.cell {w:World} {g cap k j:Nat} (h:MarkTo w g cap k) (hj:j < cap):(∃ v,w.cell? ⟨g,j,none⟩ = some v) ∧ w.frozen? ⟨g,j,none⟩ = false:=by
 obtain ⟨cur,hg,hc,hm⟩:=h
 refine ⟨⟨cur[j],?_⟩,Go.Joins.unfrozen_of_block hg j⟩
 rw [cell_of_row _ _ _ _ _ _ hg]
 exact Array.getElem?_eq_getElem (by omega)
theorem MarkTo.mark {w:World} {g cap k j:Nat} (h:MarkTo w g cap k) (hj:j < k):w.cell? ⟨g,j,none⟩ = some (.string markS):=by
 obtain ⟨cur,hg,hc,hm⟩:=h
 rw [cell_of_row _ _ _ _ _ _ hg]
 exact hm j hj
theorem MarkTo.keep {w w':World} {g cap k:Nat} (h:MarkTo w g cap k) (hb:w'.heap[g]? = w.heap[g]?):MarkTo w' g cap k:=by
 obtain ⟨cur,hg,hc,hm⟩:=h
 exact ⟨cur,hb.trans hg,hc,hm⟩
theorem MarkTo.lt {w:World} {g cap k:Nat} (h:MarkTo w g cap k):g < w.heap.size:=by
 obtain ⟨cur,hg,_⟩:=h
 exact lt_of_block hg
/-- A list as an answer has it: nil,or a row of its own. -/
theorem OwnS.row {w:World} {B:Nat} {v:Value} {l:List ByteArray} (h:OwnS w B v l):(v = .slice none 0 0 ∧ l = []) ∨ ∃ g cap,v = .slice (some ⟨g,0,none⟩) l.length cap ∧ B ≤ g ∧ l.length ≤ cap ∧ cap ≤ maxLen ∧ MarkTo w g cap 0:=by
 rcases h.2 with ⟨rfl,h0⟩ | ⟨g,cap,cur,rfl,hB,hh,h1,h2,h3,h4⟩
 ·exact Or.inl ⟨rfl,List.eq_nil_of_length_eq_zero h0⟩
 ·exact Or.inr ⟨g,cap,rfl,hB,h1,h2,cur,hh,by simpa using h3,fun j hj=>by omega⟩
theorem written_row (g n cap:Nat) (w:World) (hn:n ≤ cap) (hm:cap ≤ maxLen) (hr:MarkTo w g cap 0) :
  Calls Tryz.prog 51 #[.slice (some ⟨g,0,none⟩) n cap] w fun e w'=>e = .returned (.slice (some ⟨g,0,none⟩) cap cap) ∧ MarkTo w' g cap cap ∧ w'.heap.size = w.heap.size ∧ (∀ k,k ≠ g → w'.heap[k]? = w.heap[k]?) ∧ w'.os = w.os ∧ w'.tape = w.tape ∧ w'.output = w.output:=by
 have hm2:cap ≤ 9223372036854775807:=by unfold maxLen at hm; omega
 have HR:=hide hr
 clear hr hm
 unfold markS at *
 go_enter Tryz.func51,Tryz.ntmps51
 go_wp2
 go_loopw [4] (fun i wr=>∃ k:Nat,k ≤ cap ∧ i = .int .i64 k ∧ MarkTo wr g cap k ∧ wr.heap.size = w.heap.size ∧ Hid (∀ k,k ≠ g → wr.heap[k]? = w.heap[k]?) ∧ wr.os = w.os ∧ wr.tape = w.tape ∧ wr.output = w.output) (fun i _=>cap - (intOf i).toNat)
 case atStart=>exact ⟨0,by omega,rfl,HR.out,rfl,fun _ _=>rfl,rfl,rfl,rfl⟩
 case round =>
  obtain ⟨k,hk,rfl,hM,hz,HO,e1,e2,e3⟩:=hrel
  by_cases hlt:k < cap
  ·have hlt':(k:Int) < (cap:Int):=by omega
   have hk0:(0:Int) ≤ (k:Int):=by omega
   obtain ⟨⟨v,hc⟩,hf⟩:=hM.cell hlt
   have HM:=hide hM
   have E1:=hide e1
   have E2:=hide e2
   have E3:=hide e3
   have HZ:=hide hz
   clear hM e1 e2 e3 hz
   go_wp2
   go_roundw
   case rel=>exact ⟨k + 1,by omega,by go_num,HM.out.step hlt,by simpa using HZ.out,fun j hj=>(Below.heap_setCell _ _ _ _ (by simpa using hj)).trans (HO.out j hj),E1.out,E2.out,E3.out⟩
   case measure=>simp [intOf]; omega
  ·obtain rfl:k = cap:=by omega
   have hlt':¬ (k:Int) < (k:Int):=by omega
   go_wp2
   go_ret
   exact ⟨rfl,hM,hz,HO.out,e1,e2,e3⟩
theorem written_nil (w:World) :
  Calls Tryz.prog 51 #[.slice none 0 0] w fun e w'=>e = .returned (.slice none 0 0) ∧ w' = w:=by
 go_enter Tryz.func51,Tryz.ntmps51
 go_wp2
 go_rounds 1
 all_goals go_wp2
 all_goals go_ret
 all_goals exact ⟨rfl,rfl⟩
theorem marked_nil (w:World) :
  Calls Tryz.prog 52 #[.slice none 0 0] w fun e w'=>e = .returned (.bool true) ∧ w' = w:=by
 go_enter Tryz.func52,Tryz.ntmps52
 go_wp2
 go_rounds 1
 all_goals go_wp2
 all_goals go_ret
 all_goals exact ⟨rfl,rfl⟩
theorem marked_row (g cap:Nat) (w:World) (hm:cap ≤ maxLen) (hr:MarkTo w g cap cap) :
  Calls Tryz.prog 52 #[.slice (some ⟨g,0,none⟩) cap cap] w fun e w'=>e = .returned (.bool true) ∧ ∃ n,w' = w.drewN n:=by
 have hm2:cap ≤ 9223372036854775807:=by unfold maxLen at hm; omega
 have HR:=hide hr
 clear hr hm
 go_enter Tryz.func52,Tryz.ntmps52
 go_wp2
 go_loopw [3] (fun i wr=>∃ k:Nat,k ≤ cap ∧ i = .int .i64 k ∧ ∃ n,wr = w.drewN n) (fun i _=>cap - (intOf i).toNat)
 case atStart=>exact ⟨0,by omega,rfl,0,rfl⟩
 case round =>
  obtain ⟨k,hk,rfl,n,rfl⟩:=hrel
  by_cases hlt:k < cap
  ·have hlt':(k:Int) < (cap:Int):=by omega
   have hk0:(0:Int) ≤ (k:Int):=by omega
   have hc:=HR.out.mark hlt
   unfold markS at hc
   go_wp2
   go_roundw
   case rel=>exact ⟨k + 1,by omega,by go_num,n,rfl⟩
   case measure=>simp [intOf]; omega
  ·have hlt':¬ (k:Int) < (cap:Int):=by omega
   go_wp2
   go_ret
   exact ⟨rfl,n,rfl⟩
theorem reads_no (s:ByteArray) (kk:Int) (w:World) (hk:¬ (kk = 0 ∨ kk = 1)) :
  Calls Tryz.prog 24 #[.string s,.int .i64 kk] w fun e w'=>e = .returned (.bool true) ∧ Below w.heap.size w w':=by
 have HK:=hide hk
 clear hk
 go_enter Tryz.func24,Tryz.ntmps24
 go_wp2_with fail
 refine (refRead_no s kk _ HK.out).mono ?_
 rintro e w1 ⟨rfl,hb1⟩
 unfold zHeard
 have HG1:=hide (HrdAt.new w1 (.int .i64 0) (.string ⟨#[]⟩) (.slice none 0 0) (.bool false) (.bool false))
 have HW1:=hide (hb1.alloc hb1.size (.cells #[.int .i64 0,.string ⟨#[]⟩,.slice none 0 0,.bool false,.bool false] 98))
 clear hb1
 go_wp2_with fail
 generalize hV1:w1.alloc (.cells #[.int .i64 0,.string ⟨#[]⟩,.slice none 0 0,.bool false,.bool false] 98) = V1 at *
 have hv1:V1.heap.size = w1.heap.size + 1:=by rw [← hV1]; simp
 clear hV1
 refine (read_no s kk _ HK.out).mono ?_
 rintro e w2 ⟨rfl,hb2⟩
 unfold zHeard
 have hG2:=HG1.out.below hb2 (by omega)
 have HH2:=hide (HrdAt.new w2 (.int .i64 0) (.string ⟨#[]⟩) (.slice none 0 0) (.bool false) (.bool false))
 have hW2:=below_step HW1.out hb2
 have HW2:=hide (hW2.alloc hW2.size (.cells #[.int .i64 0,.string ⟨#[]⟩,.slice none 0 0,.bool false,.bool false] 98))
 have HG2:=hide (hG2.alloc (.cells #[.int .i64 0,.string ⟨#[]⟩,.slice none 0 0,.bool false,.bool false] 98))
 obtain ⟨c0,c1,c2,c3,c4⟩:=hG2.cell
 have hlt2:=lt_of_block hG2
 clear hb2 hG2 hW2
 go_wp2_with fail
 generalize hV2:w2.alloc (.cells #[.int .i64 0,.string ⟨#[]⟩,.slice none 0 0,.bool false,.bool false] 98) = V2 at *
 have hv2:V2.heap.size = w2.heap.size + 1:=by rw [← hV2]; simp
 clear hV2 c0 c1 c2 c3 c4
 refine (sameHeard_any 0 ⟨#[]⟩ none none [] 0 0 false false _ (by simp) (Or.inl rfl) (Or.inl rfl)).mono ?_
 rintro e w3 ⟨rfl,hb3⟩
 have hG3:=HG2.out.below hb3 (by omega)
 have hH3:=HH2.out.below hb3 (by omega)
 have HW3:=hide (below_step HW2.out hb3)
 obtain ⟨c0,c1,c2,c3,c4⟩:=hG3.cell
 obtain ⟨d0,d1,d2,d3,d4⟩:=hH3.cell
 have HG3:=hide hG3
 clear hb3 hG3 hH3
 go_wp2_with fail
 refine (written_nil _).mono ?_
 rintro e w4 ⟨rfl,rfl⟩
 go_wp2_with fail
 refine (read_no s kk _ HK.out).mono ?_
 rintro e w5 ⟨rfl,hb5⟩
 unfold zHeard
 have hG5:=HG3.out.below hb5 (lt_of_block HG3.out)
 have hW5:=below_step HW3.out hb5
 have HW5:=hide (hW5.alloc hW5.size (.cells #[.int .i64 0,.string ⟨#[]⟩,.slice none 0 0,.bool false,.bool false] 98))
 obtain ⟨c0,c1,c2,c3,c4⟩:=hG5.cell
 have hlt5:=lt_of_block hG5
 clear hb5 hG5 hW5
 go_wp2_with fail
 refine (sameHeard_any 0 ⟨#[]⟩ none none [] 0 0 false false _ (by simp) (Or.inl rfl) (Or.inl rfl)).mono ?_
 rintro e w6 ⟨rfl,hb6⟩
 have HW6:=hide (below_step HW5.out hb6)
 clear hb6
 go_wp2_with fail
 refine (marked_nil _).mono ?_
 rintro e w7 ⟨rfl,rfl⟩
 go_wp2
 go_ret
 exact ⟨rfl,HW6.out⟩
theorem same_str {a b:ByteArray} (h:a.data.toList = b.data.toList):a = b:=(str_eq a b.data.toList).2 h |>.trans (Is.self b).symm
theorem same_datas:∀ {a b:List ByteArray},datas a = datas b → a = b
 | [],[],_=>rfl
 | [],_::_,h=>by simp [datas] at h
 | _::_,[],h=>by simp [datas] at h
 | x::a,y::b,h=>by
  simp only [datas,List.map_cons,List.cons.injEq] at h
  rw [same_str h.1,same_datas (a:=a) (b:=b) h.2]
theorem Texts.keep {w w':World} {a:Option Addr} {l:List ByteArray} (h:Texts w a l) (hk:∀ k,k < w.heap.size → w'.heap[k]? = w.heap[k]?):Texts w' a l:=by
 rcases h with h | ⟨b,o,ha,h⟩
 ·exact Or.inl h
 ·refine Or.inr ⟨b,o,ha,fun i hi=>?_⟩
  have h1:=h i hi
  have h2:=World.block_lt_of_cell? w _ h1
  rw [← h1]
  simp only [World.cell?,hk b h2]
theorem reads_yes (s:ByteArray) (kk:Int) (w:World) (hs:s.size ≤ 140737488352000) (hk:kk = 0 ∨ kk = 1) :
  Calls Tryz.prog 24 #[.string s,.int .i64 kk] w fun e w'=>e = .returned (.bool true) ∧ Below w.heap.size w w':=by
 have HK:=hide hk
 clear hk
 go_enter Tryz.func24,Tryz.ntmps24
 go_wp2_with fail
 refine (refRead_any s kk _ hs HK.out).mono ?_
 rintro e w1 ⟨A,x,rfl,hA,hat,hb1⟩
 have HA:=hide hA
 clear hA
 cases A with
 | none n =>
  obtain rfl:x = zHeard n:=hat
  unfold zHeard
  have HG1:=hide (HrdAt.new w1 (.int .i64 n) (.string ⟨#[]⟩) (.slice none 0 0) (.bool false) (.bool false))
  have HW1:=hide (hb1.alloc hb1.size (.cells #[.int .i64 n,.string ⟨#[]⟩,.slice none 0 0,.bool false,.bool false] 98))
  clear hb1
  go_wp2_with fail
  generalize hV1:w1.alloc (.cells #[.int .i64 n,.string ⟨#[]⟩,.slice none 0 0,.bool false,.bool false] 98) = V1 at *
  have hv1:V1.heap.size = w1.heap.size + 1:=by rw [← hV1]; simp
  clear hV1
  refine (read_any s kk _ hs HK.out).mono ?_
  rintro e w2 ⟨A2,x2,rfl,hA2,hat2,hb2⟩
  obtain rfl:=HA.out.one hA2
  obtain rfl:x2 = zHeard n:=hat2
  clear hA2
  unfold zHeard
  have hG2:=HG1.out.below hb2 (by omega)
  have HH2:=hide (HrdAt.new w2 (.int .i64 n) (.string ⟨#[]⟩) (.slice none 0 0) (.bool false) (.bool false))
  have hW2:=below_step HW1.out hb2
  have HW2:=hide (hW2.alloc hW2.size (.cells #[.int .i64 n,.string ⟨#[]⟩,.slice none 0 0,.bool false,.bool false] 98))
  have HG2:=hide (hG2.alloc (.cells #[.int .i64 n,.string ⟨#[]⟩,.slice none 0 0,.bool false,.bool false] 98))
  obtain ⟨c0,c1,c2,c3,c4⟩:=hG2.cell
  have hlt2:=lt_of_block hG2
  clear hb2 hG2 hW2
  go_wp2_with fail
  generalize hV2:w2.alloc (.cells #[.int .i64 n,.string ⟨#[]⟩,.slice none 0 0,.bool false,.bool false] 98) = V2 at *
  have hv2:V2.heap.size = w2.heap.size + 1:=by rw [← hV2]; simp
  clear hV2 c0 c1 c2 c3 c4
  refine (sameHeard_any n ⟨#[]⟩ none none [] 0 0 false false _ (by simp) (Or.inl rfl) (Or.inl rfl)).mono ?_
  rintro e w3 ⟨rfl,hb3⟩
  have hG3:=HG2.out.below hb3 (by omega)
  have hH3:=HH2.out.below hb3 (by omega)
  have HW3:=hide (below_step HW2.out hb3)
  obtain ⟨c0,c1,c2,c3,c4⟩:=hG3.cell
  obtain ⟨d0,d1,d2,d3,d4⟩:=hH3.cell
  have HG3:=hide hG3
  clear hb3 hG3 hH3
  go_wp2_with fail
  refine (written_nil _).mono ?_
  rintro e w4 ⟨rfl,rfl⟩
  go_wp2_with fail
  refine (read_any s kk _ hs HK.out).mono ?_
  rintro e w5 ⟨A2,x2,rfl,hA2,hat2,hb5⟩
  obtain rfl:=HA.out.one hA2
  obtain rfl:x2 = zHeard n:=hat2
  clear hA2
  unfold zHeard
  have hG5:=HG3.out.below hb5 (lt_of_block HG3.out)
  have hW5:=below_step HW3.out hb5
  have HW5:=hide (hW5.alloc hW5.size (.cells #[.int .i64 n,.string ⟨#[]⟩,.slice none 0 0,.bool false,.bool false] 98))
  obtain ⟨c0,c1,c2,c3,c4⟩:=hG5.cell
  have hlt5:=lt_of_block hG5
  clear hb5 hG5 hW5
  go_wp2_with fail
  refine (sameHeard_any n ⟨#[]⟩ none none [] 0 0 false false _ (by simp) (Or.inl rfl) (Or.inl rfl)).mono ?_
  rintro e w6 ⟨rfl,hb6⟩
  have HW6:=hide (below_step HW5.out hb6)
  clear hb6
  go_wp2_with fail
  refine (marked_nil _).mono ?_
  rintro e w7 ⟨rfl,rfl⟩
  go_wp2
  go_ret
  exact ⟨rfl,HW6.out⟩
 | data h0 ps0 c t =>
  obtain ⟨hb,v,lb,rfl,rfl,rfl,hS⟩:=hat
  have hlb:1 ≤ lb.length:=by
   have:=(Blk.berr_ok HA.out.2.ok).2.1
   rwa [datas_length] at this
  have hlb4:lb.length ≤ 4:=by
   have:=(Blk.berr_ok HA.out.2.ok).2.2.1
   rwa [datas_length] at this
  obtain ⟨a,cap,rfl,htx⟩:=hS.texts
  have HTX:=hide htx
  have HG1:=hide (HrdAt.new w1 (.int .i64 2) (.string hb) (.slice a lb.length cap) (.bool c) (.bool t))
  have HW1:=hide (hb1.alloc hb1.size (.cells #[.int .i64 2,.string hb,.slice a lb.length cap,.bool c,.bool t] 98))
  have hbw1:=hb1.size
  have HV0:Hid (∀ g,g < w1.heap.size → (w1.alloc (.cells #[.int .i64 2,.string hb,.slice a lb.length cap,.bool c,.bool t] 98)).heap[g]? = w1.heap[g]?):=fun g hg=>Below.heap_alloc _ _ _ hg
  clear hb1 hS htx
  go_wp2_with fail
  generalize hV1:w1.alloc (.cells #[.int .i64 2,.string hb,.slice a lb.length cap,.bool c,.bool t] 98) = V1 at *
  have hv1:V1.heap.size = w1.heap.size + 1:=by rw [← hV1]; simp
  clear hV1
  refine (read_any s kk _ hs HK.out).mono ?_
  rintro e w2 ⟨A2,x2,rfl,hA2,hat2,hb2⟩
  obtain rfl:=HA.out.one hA2
  obtain ⟨hb',v',lb',rfl,e1,e2,hS2⟩:=hat2
  obtain rfl:=same_str e1
  obtain rfl:=same_datas e2
  clear e1 e2 hA2
  obtain ⟨_,hnil⟩ | ⟨g,cap',rfl,hgB,hcl,hcm,hM2⟩:=hS2.row
  ·rw [hnil] at hlb; simp at hlb
  have htx2:Texts w2 (some ⟨g,0,none⟩) lb':=by
   obtain ⟨a3,c3,e3,h3⟩:=hS2.texts
   simp only [Value.slice.injEq,true_and] at e3
   rw [e3.1]; exact h3
  have hG2:=HG1.out.below hb2 (by omega)
  have HH2:=hide (HrdAt.new w2 (.int .i64 2) (.string hb') (.slice (some ⟨g,0,none⟩) lb'.length cap') (.bool c) (.bool t))
  have hW2:=below_step HW1.out hb2
  have HW2:=hide (hW2.alloc hW2.size (.cells #[.int .i64 2,.string hb',.slice (some ⟨g,0,none⟩) lb'.length cap',.bool c,.bool t] 98))
  have HG2:=hide (hG2.alloc (.cells #[.int .i64 2,.string hb',.slice (some ⟨g,0,none⟩) lb'.length cap',.bool c,.bool t] 98))
  have hbv2:Below w2.heap.size w2 (w2.alloc (.cells #[.int .i64 2,.string hb',.slice (some ⟨g,0,none⟩) lb'.length cap',.bool c,.bool t] 98)):=(Below.refl _ _).alloc (Nat.le_refl _) _
  have hg2:=hM2.lt
  have HM2:=hide (hM2.keep (hbv2.block g hg2))
  have HTX2:=hide (htx2.below hbv2)
  have HV2:Hid (∀ g,g < w1.heap.size → (w2.alloc (.cells #[.int .i64 2,.string hb',.slice (some ⟨g,0,none⟩) lb'.length cap',.bool c,.bool t] 98)).heap[g]? = w1.heap[g]?) → True:=fun _=>trivial
  clear HV2
  have HK2:Hid (∀ k,k < w1.heap.size → w2.heap[k]? = w1.heap[k]?):=fun k hk=>(hb2.block k (by omega)).trans (HV0.out k hk)
  have hz2:=hb2.size
  obtain ⟨c0,c1,c2,c3,c4⟩:=hG2.cell
  have hlt2:=lt_of_block hG2
  clear hb2 hG2 hW2 hS2 hM2 htx2
  go_wp2_with fail
  have HK3:Hid (∀ k,k < w1.heap.size → (w2.alloc (.cells #[.int .i64 2,.string hb',.slice (some ⟨g,0,none⟩) lb'.length cap',.bool c,.bool t] 98)).heap[k]? = w1.heap[k]?):=fun k hk=>(Below.heap_alloc _ _ _ (by omega)).trans (HK2.out k hk)
  generalize hV2:w2.alloc (.cells #[.int .i64 2,.string hb',.slice (some ⟨g,0,none⟩) lb'.length cap',.bool c,.bool t] 98) = V2 at *
  have hv2:V2.heap.size = w2.heap.size + 1:=by rw [← hV2]; simp
  clear hV2 c0 c1 c2 c3 c4 hbv2
  refine (sameHeard_any 2 hb' (some ⟨g,0,none⟩) a lb' cap' cap c t _ (by omega) HTX2.out (HTX.out.keep HK3.out)).mono ?_
  rintro e w3 ⟨rfl,hb3⟩
  have hG3:=HG2.out.below hb3 (by omega)
  have hH3:=HH2.out.below hb3 (by omega)
  have HW3:=hide (below_step HW2.out hb3)
  have HM3:=hide (HM2.out.keep (hb3.block g (by omega)))
  have HK4:Hid (∀ k,k < w1.heap.size → w3.heap[k]? = w1.heap[k]?):=fun k hk=>(hb3.block k (by omega)).trans (HK3.out k hk)
  obtain ⟨d0,d1,d2,d3,d4⟩:=hH3.cell
  have HG3:=hide hG3
  have hz3:=hb3.size
  clear hb3 hG3 hH3
  go_wp2_with fail
  refine (written_row g lb'.length cap' _ hcl hcm HM3.out).mono ?_
  rintro e w4 ⟨rfl,hM4,hz4,ho4,t1,t2,t3⟩
  have HK5:Hid (∀ k,k < w1.heap.size → w4.heap[k]? = w1.heap[k]?):=fun k hk=>(ho4 k (by omega)).trans (HK4.out k hk)
  have HG4:Hid (HrdAt w4 w1.heap.size (.int .i64 2) (.string hb') (.slice a lb'.length cap) (.bool c) (.bool t)):=(ho4 w1.heap.size (by omega)).trans HG3.out
  have hgw:w.heap.size ≤ g:=by omega
  have HW4:Hid (Below w.heap.size w w4):=⟨t1.trans HW3.out.os,t2.trans HW3.out.tape,t3.trans HW3.out.output,by have:=HW3.out.size; omega,fun k hk=>(ho4 k (by omega)).trans (HW3.out.block k hk)⟩
  have HM4:=hide hM4
  clear hM4 ho4 t1 t2 t3
  go_wp2_with fail
  refine (read_any s kk _ hs HK.out).mono ?_
  rintro e w5 ⟨A2,x2,rfl,hA2,hat2,hb5⟩
  obtain rfl:=HA.out.one hA2
  obtain ⟨hb2,v2,lb2,rfl,e1,e2,hS5⟩:=hat2
  obtain rfl:=same_str e1
  obtain rfl:=same_datas e2
  clear e1 e2 hA2
  obtain ⟨a5,cap5,rfl,htx5⟩:=hS5.texts
  have hG5:=HG4.out.below hb5 (lt_of_block HG4.out)
  have hM5:=HM4.out.keep (hb5.block g (by omega))
  have hW5:=below_step HW4.out hb5
  have HW5:=hide (hW5.alloc hW5.size (.cells #[.int .i64 2,.string hb2,.slice a5 lb2.length cap5,.bool c,.bool t] 98))
  have hbv5:Below w5.heap.size w5 (w5.alloc (.cells #[.int .i64 2,.string hb2,.slice a5 lb2.length cap5,.bool c,.bool t] 98)):=(Below.refl _ _).alloc (Nat.le_refl _) _
  have hz5:=hb5.size
  have HM5:=hide (hM5.keep (hbv5.block g (by omega)))
  have HT5:=hide (htx5.below hbv5)
  have HK6:Hid (∀ k,k < w1.heap.size → (w5.alloc (.cells #[.int .i64 2,.string hb2,.slice a5 lb2.length cap5,.bool c,.bool t] 98)).heap[k]? = w1.heap[k]?):=fun k hk=>(hbv5.block k (by omega)).trans ((hb5.block k (by omega)).trans (HK5.out k hk))
  obtain ⟨c0,c1,c2,c3,c4⟩:=hG5.cell
  have hlt5:=lt_of_block hG5
  clear hb5 hG5 hW5 hM5 htx5 hS5
  go_wp2_with fail
  generalize hV5:w5.alloc (.cells #[.int .i64 2,.string hb2,.slice a5 lb2.length cap5,.bool c,.bool t] 98) = V5 at *
  have hv5:V5.heap.size = w5.heap.size + 1:=by rw [← hV5]; simp
  clear hV5 hbv5
  refine (sameHeard_any 2 hb2 a5 a lb2 cap5 cap c t _ (by omega) HT5.out (HTX.out.keep HK6.out)).mono ?_
  rintro e w6 ⟨rfl,hb6⟩
  have HW6:=hide (below_step HW5.out hb6)
  have HM6:=hide (HM5.out.keep (hb6.block g (by omega)))
  clear hb6
  go_wp2_with fail
  refine (marked_row g cap' _ hcm HM6.out).mono ?_
  rintro e w7 ⟨rfl,n7,rfl⟩
  go_wp2
  go_ret
  exact ⟨rfl,below_drewN HW6.out n7⟩
theorem reads_walk (s:ByteArray) (kk:Int) (w:World) (hs:s.size ≤ 140737488352000) :
  Calls Tryz.prog 24 #[.string s,.int .i64 kk] w fun e w'=>e = .returned (.bool true) ∧ Below w.heap.size w w':=by
 by_cases hk:kk = 0 ∨ kk = 1
 ·exact reads_yes s kk w hs hk
 ·exact reads_no s kk w hk
end Go.Proofs.YtlbpjcphhocdkaaGreat
namespace Go.Proofs.YtlbpjcphhocdkaaGreat
open Go.ChangeShapes Go.WideShapes Go.ChangeAt Go.RowKit Go.Joins
open Go.ChangeMaps (open_string shut_string)
theorem cellsStr:Tryz.prog.cellsOf 9 = 1:=by kernel_rfl
theorem strings_at {w:World} {a:Addr} {ss:List ByteArray} (h:∀ i,i < ss.length → w.cell? (a.add i) = some (.string (ss.getD i ByteArray.empty))) (hp:0 < ss.length) :
  ∃ b off,a = ⟨b,off,none⟩ ∧ ∀ j,j < ss.length → w.cell? ⟨b,off + j,none⟩ = some (.string (ss.getD j ByteArray.empty)):=by
 obtain ⟨b,off,spot⟩:=a
 have hspot:spot = none:=by simpa [Addr.add] using World.cell?_spot (h 0 hp)
 subst hspot
 exact ⟨b,off,rfl,fun j hj=>by rw [← Go.WideShapes.add_plain]; exact h j hj⟩
/-- The datum of a list of texts. -/
def PartsD {H:Type} (l:List ByteArray) (d:DataW H):Prop:=(d = .nil ∧ l = []) ∨ ∃ sp,d = .slice (strs l) (strs sp)
theorem open_texts {H:Type} {enc:TypeId × Value → H} {W:World} {fuel:Nat} {v:Value} {y:DataW H × List MemPlace}
  (h:DataW.trod enc Tryz.prog W 0 (fun _=>true) true fuel 37 [v] = some y) :
  ∃ a l cap,v = .slice a l.length cap ∧ Texts W a l ∧ PartsD l y.1:=by
 rcases open_strings Tryz.underlying37 Tryz.underlying9 cellsStr h with ⟨hcs,hx⟩ | ⟨a,len,cap,ss,hcs,_,hl,hm,hz,hx,hcell,hsz⟩
 ·simp only [List.cons.injEq,and_true] at hcs
  subst hx
  exact ⟨none,[],0,hcs,Or.inl rfl,Or.inl ⟨rfl,rfl⟩⟩
 ·simp only [List.cons.injEq,and_true] at hcs
  simp only [if_true] at hz
  have hlen:(ss.take len).length = len:=by simp; omega
  refine ⟨some a,ss.take len,cap,by rw [hlen]; exact hcs,?_,Or.inr ⟨ss.drop len,by rw [hx]⟩⟩
  by_cases h0:len = 0
  ·exact Or.inl (List.eq_nil_of_length_eq_zero (by omega))
  ·obtain ⟨b,o,rfl,hc⟩:=strings_at hcell (by omega)
   refine Or.inr ⟨b,o,rfl,fun i hi=>?_⟩
   rw [hlen] at hi
   rw [hc i (by omega)]
   simp [List.getD,List.getElem?_take_of_lt hi]
end Go.Proofs.YtlbpjcphhocdkaaGreat
namespace Go.Proofs.YtlbpjcphhocdkaaGreat
open Go.ChangeShapes Go.WideShapes Go.ChangeAt Go.RowKit Go.Joins
theorem cellsCfg:Tryz.prog.cellsOf 26 = 10:=by kernel_rfl
/-- A number of 64 bits. -/
def I64 (a:Int):Prop:=-9223372036854775808 ≤ a ∧ a ≤ 9223372036854775807
theorem open_i64 {H:Type} {enc:TypeId × Value → H} {W:World} {fuel:Nat} {v:Value} {y:DataW H × List MemPlace}
  (h:DataW.trod enc Tryz.prog W 0 (fun _=>true) true fuel 3 [v] = some y):∃ a:Int,v = .int .i64 a ∧ I64 a ∧ y.2 = []:=by
 obtain ⟨a,e,hy,hw⟩:=DataW.trod_int Tryz.underlying3 h
 simp only [List.cons.injEq,and_true] at e
 refine ⟨a,e,?_,by rw [hy]⟩
 simp only [Lit.wf,Bool.and_eq_true,decide_eq_true_eq] at hw
 exact hw
end Go.Proofs.YtlbpjcphhocdkaaGreat
namespace Go.Proofs.YtlbpjcphhocdkaaGreat
open Go.RowKit
/-- A step of a script. -/
structure LOp where
 kind:Int
 line:Int
 a:Int
 b:Int
 c:Int
 s:List UInt8
 t:List UInt8
 f:Bool
 pa:Option Addr
 pl:List ByteArray
 pc:Nat
 g0:Int
 g1:Int
 g2:Int
 g3:Int
 g4:Int
 g5:Int
 g6:Int
 g7:Int
 g8:Int
 g9:Int
def opCells (o:LOp):List Value:=[.int .i64 o.kind,.int .i64 o.line,.int .i64 o.a,.int .i64 o.b,.int .i64 o.c,.string ⟨o.s.toArray⟩,.string ⟨o.t.toArray⟩,.bool o.f,.slice o.pa o.pl.length o.pc,.int .i64 o.g0,.int .i64 o.g1,.int .i64 o.g2,.int .i64 o.g3,.int .i64 o.g4,.int .i64 o.g5,.int .i64 o.g6,.int .i64 o.g7,.int .i64 o.g8,.int .i64 o.g9]
def OpAt (w:World) (g:Nat) (o:LOp):Prop:=w.heap[g]? = some (.cells (opCells o).toArray 39 (0,0))
theorem OpAt.cell {w:World} {g:Nat} {o:LOp} (h:OpAt w g o) (j:Nat):w.cell? ⟨g,j,none⟩ = (opCells o)[j]?:=by
 unfold OpAt at h
 simp [World.cell?,h]
/-- The script,in memory that is older than the call. -/
def OscAt (w:World) (a:Option Addr) (l:List LOp):Prop :=
 l = [] ∨ ∃ b off,a = some ⟨b,off,none⟩ ∧ b < w.heap.size ∧ ∀ i o,l[i]? = some o → ∀ j v,(opCells o)[j]? = some v → w.cell? ⟨b,off + i * 19 + j,none⟩ = some v
theorem OscAt.below {w w':World} {a:Option Addr} {l:List LOp} (h:OscAt w a l) (k:Below w.heap.size w w'):OscAt w' a l:=by
 rcases h with h | ⟨b,off,ha,hb,hc⟩
 ·exact Or.inl h
 ·exact Or.inr ⟨b,off,ha,Nat.lt_of_lt_of_le hb k.size,fun i o hio j v hj=>(k.cell (p:=⟨b,off + i * 19 + j,none⟩) hb).trans (hc i o hio j v hj)⟩
structure OpOk (w:World) (o:LOp):Prop where
 line:-9223372036854775808 ≤ o.line ∧ o.line ≤ 9223372036854775807
 a:-9223372036854775808 ≤ o.a ∧ o.a ≤ 9223372036854775807
 s:o.s.length ≤ 1048576
 t:o.t.length ≤ 1048576
 pl:o.pl.length ≤ 1048576
 ps:∀ s ∈ o.pl,s.size ≤ 1048576
 tx:Texts w o.pa o.pl
theorem OpOk.below {w w':World} {o:LOp} (h:OpOk w o) (k:Below w.heap.size w w'):OpOk w' o:=⟨h.line,h.a,h.s,h.t,h.pl,h.ps,h.tx.below k⟩
end Go.Proofs.YtlbpjcphhocdkaaGreat
