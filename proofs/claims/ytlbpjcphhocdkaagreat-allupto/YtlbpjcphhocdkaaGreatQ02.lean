/- The program's functions beneath Read: what is left behind the SYN, and how it begins. The program's functions beneath Read: the head, the mark Clear, a part, a short kind. The program's functions beneath Read: one part .. -/
import Derived.Test.YtlbpjcphhocdkaaGreatQ01
import Derived.Lib.Strings
import Derived.Handy
set_option maxRecDepth 1000000
set_option maxHeartbeats 16000000
namespace Go.Proofs.YtlbpjcphhocdkaaGreat
open Go.RowKit
theorem is_cut (s:ByteArray) (a b:Nat):Is (s.extract a b) ((s.data.toList.drop a).take (b - a)):=by
 have:=Is.self (s.extract a b)
 rw [Go.Lib.extract_data] at this
 exact this
theorem is_tail' (s:ByteArray) (n:Nat):Is (s.extract n s.size) (s.data.toList.drop n):=by
 have h:=is_cut s n s.size
 rw [List.take_of_length_le (by simp)] at h
 exact h
theorem getD_in (s:ByteArray) (k:Nat) (h:k < s.size):s.data.toList.getD k 0 = s[k]:=by
 have h':k < s.data.toList.length:=by simpa using h
 simp [List.getD,List.getElem?_eq_getElem h']
 rfl
theorem getD_out (s:ByteArray) (k:Nat) (h:¬ k < s.size):s.data.toList.getD k 0 = 0:=by
 have h':s.data.toList.length ≤ k:=by simp; omega
 simp [List.getD,List.getElem?_eq_none h']
theorem byteAt_any (s:ByteArray) (k:Nat) (w:World) (_hs:s.size ≤ 140737488352000) (hk:k ≤ 300000000000000) :
  Calls Tryz.prog 100 #[.string s,.int .i64 k] w fun e w'=>e = .returned (.int .u8 (s.data.toList.getD k 0).toNat) ∧ w' = w:=by
 by_cases h:k < s.size
 ·have hg:=getD_in s k h
  generalize s.data.toList.getD k 0 = v at *
  have HG:=hide hg
  clear hg
  have h1:¬ (k:Int) < 0:=by omega
  have h2:¬ (s.size:Int) ≤ (k:Int):=by omega
  go_enter Tryz.func100,Tryz.ntmps100
  go_wp2
  go_ret
  exact ⟨by rw [HG.out]; rfl,rfl⟩
 ·have hg:=getD_out s k h
  generalize s.data.toList.getD k 0 = v at *
  have HG:=hide hg
  clear hg
  have h1:¬ (k:Int) < 0:=by omega
  have h2:(s.size:Int) ≤ (k:Int):=by omega
  go_enter Tryz.func100,Tryz.ntmps100
  go_wp2
  go_ret
  exact ⟨by rw [HG.out]; rfl,rfl⟩
theorem restB_hit (s:ByteArray) (k:Nat) (h:k + 1 < s.size) (h1:s[k].toNat = 22) (h2:s[k + 1].toNat = 22):Prs.restL (s.data.toList.drop k) = (s.data.toList.drop k).dropWhile Prs.syn :=
 Prs.restL_hit _ k (by simpa using h) h1 h2
theorem restB_step (s:ByteArray) (k:Nat) (h:k + 1 < s.size) (hn:¬ (s[k].toNat = 22 ∧ s[k + 1].toNat = 22)):Prs.restL (s.data.toList.drop k) = Prs.restL (s.data.toList.drop (k + 1)) :=
 Prs.restL_step _ k (by simpa using h) hn
theorem restB_end (s:ByteArray) (k:Nat) (h:s.size ≤ k + 1):Prs.restL (s.data.toList.drop k) = []:=Prs.restL_end _ k (by simpa using h)
theorem dwB_step (s:ByteArray) (k:Nat) (h:k < s.size) (hs:s[k].toNat = 22):(s.data.toList.drop k).dropWhile Prs.syn = (s.data.toList.drop (k + 1)).dropWhile Prs.syn:=Prs.dw_step _ k (by simpa using h) hs
theorem dwB_stop (s:ByteArray) (k:Nat) (h:k < s.size) (hs:¬ s[k].toNat = 22):(s.data.toList.drop k).dropWhile Prs.syn = s.data.toList.drop k:=Prs.dw_stop _ k (by simpa using h) hs
theorem dwB_end (s:ByteArray) (k:Nat) (h:s.size ≤ k):(s.data.toList.drop k).dropWhile Prs.syn = []:=Prs.dw_end _ k (by simpa using h)
theorem firstPair_any (s:ByteArray) (w:World) (hs:s.size ≤ 140737488352000) :
  Calls Tryz.prog 99 #[.string s] w fun e w'=>∃ p:Nat,e = .returned (.int .i64 p) ∧ p ≤ s.size ∧ Hid (Prs.restL s.data.toList = (s.data.toList.drop p).dropWhile Prs.syn) ∧ w' = w:=by
 go_enter Tryz.func99,Tryz.ntmps99
 go_wp2
 go_loop [3] (fun i=>∃ k:Nat,(k ≤ s.size ∨ k = 0) ∧ i = .int .i64 ((k:Int) + 1) ∧ Hid (Prs.restL s.data.toList = Prs.restL (s.data.toList.drop k))) (fun i=>s.size + 1 - (intOf i).toNat)
 case atStart=>exact ⟨0,by omega,rfl,rfl⟩
 case round =>
  obtain ⟨k,hk,rfl,HN⟩:=hrel
  by_cases hlt:k + 1 < s.size
  ·have hlt':(k:Int) + 1 < (s.size:Int):=by omega
   have e1:(k:Int) + 1 - 1 = (k:Int):=by omega
   by_cases h1:s[k].toNat = 22
   ·by_cases h2:s[k + 1].toNat = 22
    ·have HT:=hide (restB_hit s k hlt h1 h2)
     have d1:((s[k].toNat:Int) == 22) = true:=by simp [h1]
     have d2:((s[k + 1].toNat:Int) == 22) = true:=by simp [h2]
     clear h1 h2
     go_wp2
     go_ret
     exact ⟨k,by congr 2,by omega,HN.out.trans HT.out,rfl⟩
    ·have HT:=hide (restB_step s k hlt (fun h=>h2 h.2))
     have d1:((s[k].toNat:Int) == 22) = true:=by simp [h1]
     have d2:((s[k + 1].toNat:Int) == 22) = false:=by simp; omega
     clear h1 h2
     go_wp2
     go_round
     case rel=>exact ⟨k + 1,by omega,by go_num,HN.out.trans HT.out⟩
     case measure=>simp [intOf]; omega
   ·have HT:=hide (restB_step s k hlt (fun h=>h1 h.1))
    have d1:((s[k].toNat:Int) == 22) = false:=by simp; omega
    clear h1
    go_wp2
    go_round
    case rel=>exact ⟨k + 1,by omega,by go_num,HN.out.trans HT.out⟩
    case measure=>simp [intOf]; omega
  ·have hlt':¬ (k:Int) + 1 < (s.size:Int):=by omega
   have HE:=hide (restB_end s k (by omega))
   have HD:=hide (dwB_end s s.size (by omega))
   go_wp2
   go_ret
   exact ⟨s.size,rfl,by omega,by rw [Hid,HN.out,HE.out,HD.out],rfl⟩
theorem behindSyns_any (s:ByteArray) (w:World) (hs:s.size ≤ 140737488352000) :
  Calls Tryz.prog 79 #[.string s] w fun e w'=>∃ r,e = .returned (.string r) ∧ Hid (Is r (Prs.restL s.data.toList)) ∧ r.size ≤ s.size ∧ w' = w:=by
 go_enter Tryz.func79,Tryz.ntmps79
 go_wp2_with (first | (go_at_call 99; refine (firstPair_any s _ hs).mono ?_; rintro e w1 ⟨p,rfl,hp,HP,rfl⟩))
 go_loop [3] (fun i=>∃ k:Nat,k ≤ s.size ∧ i = .int .i64 k ∧ Hid (Prs.restL s.data.toList = (s.data.toList.drop k).dropWhile Prs.syn)) (fun i=>s.size - (intOf i).toNat)
 case atStart=>exact ⟨p,by omega,rfl,HP⟩
 case round =>
  obtain ⟨k,hk,rfl,HN⟩:=hrel
  by_cases hlt:k < s.size
  ·have hlt':(k:Int) < (s.size:Int):=by omega
   by_cases h1:s[k].toNat = 22
   ·have HT:=hide (dwB_step s k hlt h1)
    have d1:((s[k].toNat:Int) == 22) = true:=by simp [h1]
    clear h1
    go_wp2
    go_round
    case rel=>exact ⟨k + 1,by omega,by go_num,HN.out.trans HT.out⟩
    case measure=>simp [intOf]; omega
   ·have HT:=hide (dwB_stop s k hlt h1)
    have d1:((s[k].toNat:Int) == 22) = false:=by simp; omega
    have HI:=hide (is_tail' s k)
    clear h1
    go_wp2
    go_ret
    exact ⟨_,rfl,by rw [Hid,HN.out,HT.out]; exact HI,by simp,rfl⟩
  ·obtain rfl:k = s.size:=by omega
   have hlt':¬ (s.size:Int) < (s.size:Int):=by omega
   have HD:=hide (dwB_end s s.size (by omega))
   go_wp2
   go_ret
   exact ⟨_,rfl,by rw [Hid,HN.out,HD.out]; rfl,by simp,rfl⟩
theorem beginsBlock_any (s:ByteArray) (w:World) (hs:s.size ≤ 140737488352000) :
  Calls Tryz.prog 80 #[.string s] w fun e w'=>e = .returned (.bool (begins s.data.toList)) ∧ w' = w:=by
 have b0:=byteAt_any s 0
 have b1:=byteAt_any s 1
 have HB:Hid (begins s.data.toList = decide ((s.data.toList.getD 0 0).toNat = 1 ∨ (s.data.toList.getD 0 0).toNat = 2 ∨ ((s.data.toList.getD 0 0).toNat = 16 ∧ (s.data.toList.getD 1 0).toNat = 2))):=rfl
 generalize (s.data.toList.getD 0 0).toNat = x at *
 generalize (s.data.toList.getD 1 0).toNat = y at *
 have B0:=hide b0
 have B1:=hide b1
 clear b0 b1
 by_cases h1:x = 1
 ·have d1:((x:Int) == 1) = true:=by simp [h1]
  have HF:Hid (begins s.data.toList = true):=by rw [Hid,HB.out]; simp [h1]
  clear h1
  go_enter Tryz.func80,Tryz.ntmps80
  go_wp2_with (first | (go_at_call 100; refine (B0.out _ hs (by omega)).mono ?_; rintro e w1 ⟨rfl,rfl⟩))
  go_ret
  exact ⟨by rw [HF.out]; rfl,rfl⟩
 ·have d1:((x:Int) == 1) = false:=by simp; omega
  by_cases h2:x = 2
  ·have d2:((x:Int) == 2) = true:=by simp [h2]
   have HF:Hid (begins s.data.toList = true):=by rw [Hid,HB.out]; simp [h2]
   clear h1 h2
   go_enter Tryz.func80,Tryz.ntmps80
   go_wp2_with (first | (go_at_call 100; refine (B0.out _ hs (by omega)).mono ?_; rintro e w1 ⟨rfl,rfl⟩))
   go_ret
   exact ⟨by rw [HF.out]; rfl,rfl⟩
  ·have d2:((x:Int) == 2) = false:=by simp; omega
   by_cases h3:x = 16
   ·have d3:((x:Int) == 16) = true:=by simp [h3]
    have HF:Hid (begins s.data.toList = ((y:Int) == 2)):=by
     rw [Hid,HB.out,Bool.eq_iff_iff]
     simp only [decide_eq_true_eq,beq_iff_eq]
     omega
    clear h1 h2 h3
    go_enter Tryz.func80,Tryz.ntmps80
    go_wp2_with fail
    refine (B0.out _ hs (by omega)).mono ?_
    rintro e w1 ⟨rfl,rfl⟩
    go_wp2_with fail
    refine (B1.out _ hs (by omega)).mono ?_
    rintro e w1 ⟨rfl,rfl⟩
    go_wp2
    go_ret
    exact ⟨by rw [HF.out]; rfl,rfl⟩
   ·have d3:((x:Int) == 16) = false:=by simp; omega
    have HF:Hid (begins s.data.toList = false):=by rw [Hid,HB.out]; simp; omega
    clear h1 h2 h3
    go_enter Tryz.func80,Tryz.ntmps80
    go_wp2_with (first | (go_at_call 100; refine (B0.out _ hs (by omega)).mono ?_; rintro e w1 ⟨rfl,rfl⟩))
    go_ret
    exact ⟨by rw [HF.out]; rfl,rfl⟩
theorem checkLength_any (k:Int) (w:World) (hk:k = 0 ∨ k = 1) :
  Calls Tryz.prog 119 #[.int .i64 k] w fun e w'=>e = .returned (.int .i64 (k + 1)) ∧ w' = w:=by
 rcases hk with rfl | rfl
 all_goals
  go_enter Tryz.func119,Tryz.ntmps119
  go_wp2
  go_ret
  exact ⟨rfl,rfl⟩
def noCtl (u:UInt8):Bool:=!Blk.isCtl u
/-- A run of bytes of one kind,by places. -/
theorem tw_step (f:UInt8 → Bool) (s:ByteArray) (k:Nat) (h:k < s.size) (hf:f s[k] = true):(s.data.toList.drop k).takeWhile f = s[k]::(s.data.toList.drop (k + 1)).takeWhile f:=by
 have h':k < s.data.toList.length:=by simpa using h
 rw [List.drop_eq_getElem_cons h']
 exact List.takeWhile_cons_of_pos hf
theorem tw_stop (f:UInt8 → Bool) (s:ByteArray) (k:Nat) (h:k < s.size) (hf:f s[k] = false):(s.data.toList.drop k).takeWhile f = []:=by
 have h':k < s.data.toList.length:=by simpa using h
 rw [List.drop_eq_getElem_cons h']
 exact List.takeWhile_cons_of_neg (by rw [Bool.not_eq_true]; exact hf)
theorem tw_end (f:UInt8 → Bool) (s:ByteArray) (k:Nat) (h:s.size ≤ k):(s.data.toList.drop k).takeWhile f = []:=by rw [List.drop_of_length_le (by simpa using h)]; rfl
theorem cut_snoc (s:ByteArray) (a k:Nat) (ha:a ≤ k) (h:k < s.size):(s.data.toList.drop a).take (k + 1 - a) = (s.data.toList.drop a).take (k - a) ++ [s[k]]:=by
 have h':k - a < (s.data.toList.drop a).length:=by simp; omega
 rw [show k + 1 - a = (k - a) + 1 by omega,List.take_succ_eq_append_getElem h']
 congr 2
 rw [List.getElem_drop]
 simp only [show a + (k - a) = k by omega]
 rfl
theorem foundHead_any (s:ByteArray) (w:World) (hs:s.size ≤ 140737488352000) :
  Calls Tryz.prog 116 #[.string s] w fun e w'=>∃ r,e = .returned (.string r) ∧ Hid (Is r (Prs.headP noCtl s.data.toList)) ∧ r.size ≤ s.size ∧ w' = w:=by
 have b0:=byteAt_any s 0
 have HH:Hid (Prs.headP noCtl s.data.toList = if (s.data.toList.getD 0 0).toNat = 1 then (s.data.toList.drop 1).takeWhile noCtl else []):=rfl
 have h0:(s.data.toList.getD 0 0).toNat = 1 → 1 ≤ s.size:=by
  intro h
  by_cases hz:0 < s.size
  ·omega
  ·rw [getD_out s 0 hz] at h; cases h
 generalize (s.data.toList.getD 0 0).toNat = x at *
 have B0:=hide b0
 clear b0
 by_cases h1:x = 1
 ·have d1:((x:Int) != 1) = false:=by simp [h1]
  have HF:Hid (Prs.headP noCtl s.data.toList = (s.data.toList.drop 1).takeWhile noCtl):=by rw [Hid,HH.out,if_pos h1]
  have hz:=h0 h1
  clear h1 h0 HH
  go_enter Tryz.func116,Tryz.ntmps116
  go_wp2_with (first | (go_at_call 100; refine (B0.out _ hs (by omega)).mono ?_; rintro e w1 ⟨rfl,rfl⟩))
  go_loop [3] (fun i=>∃ k:Nat,1 ≤ k ∧ k ≤ s.size ∧ i = .int .i64 k ∧ Hid ((s.data.toList.drop 1).takeWhile noCtl = (s.data.toList.drop 1).take (k - 1) ++ (s.data.toList.drop k).takeWhile noCtl)) (fun i=>s.size - (intOf i).toNat)
  case atStart=>exact ⟨1,by omega,by omega,rfl,by simp [Hid]⟩
  case round =>
   obtain ⟨k,hk1,hk,rfl,HN⟩:=hrel
   by_cases hlt:k < s.size
   ·have hlt':(k:Int) < (s.size:Int):=by omega
    cases hc:Blk.isCtl s[k]
    ·have HC:=hide hc
     have HT:=hide (tw_step noCtl s k hlt (by simp [noCtl,hc]))
     have HS:=hide (cut_snoc s 1 k hk1 hlt)
     clear hc
     go_wp2_with (first | (go_at_call 102; refine (isControl_any s[k] _).mono ?_; rintro e w1 ⟨rfl,rfl⟩; rw [HC.out]))
     go_round
     case rel=>exact ⟨k + 1,by omega,by omega,by go_num,by rw [Hid,HN.out,HS.out,HT.out,List.append_assoc]; rfl⟩
     case measure=>simp [intOf]; omega
    ·have HC:=hide hc
     have HT:=hide (tw_stop noCtl s k hlt (by simp [noCtl,hc]))
     have HI:=hide (is_cut s 1 k)
     clear hc
     go_wp2_with (first | (go_at_call 102; refine (isControl_any s[k] _).mono ?_; rintro e w1 ⟨rfl,rfl⟩; rw [HC.out]))
     go_ret
     exact ⟨_,rfl,by rw [Hid,HF.out,HN.out,HT.out,List.append_nil]; exact HI,by simp; omega,rfl⟩
   ·obtain rfl:k = s.size:=by omega
    have hlt':¬ (s.size:Int) < (s.size:Int):=by omega
    have HT:=hide (tw_end noCtl s s.size (by omega))
    have HI:=hide (is_cut s 1 s.size)
    go_wp2
    go_ret
    exact ⟨_,rfl,by rw [Hid,HF.out,HN.out,HT.out,List.append_nil]; exact HI,by simp,rfl⟩
 ·have d1:((x:Int) != 1) = true:=by simp; omega
  have HF:Hid (Prs.headP noCtl s.data.toList = []):=by rw [Hid,HH.out,if_neg h1]
  clear h1 h0 HH
  go_enter Tryz.func116,Tryz.ntmps116
  go_wp2_with (first | (go_at_call 100; refine (B0.out _ hs (by omega)).mono ?_; rintro e w1 ⟨rfl,rfl⟩))
  go_ret
  exact ⟨_,rfl,by rw [Hid,HF.out]; rfl,Nat.zero_le _,rfl⟩
theorem foundClear_any (s h:ByteArray) (w:World) (hs:s.size ≤ 140737488352000) (hh:h.size ≤ s.size) :
  Calls Tryz.prog 117 #[.string s,.string h] w fun e w'=>e = .returned (.bool (Prs.clearP s.data.toList h.data.toList)) ∧ w' = w:=by
 have HC:Hid (Prs.clearP s.data.toList h.data.toList = decide ((s.data.toList.getD (if h.data.toList = [] then 0 else 1 + h.data.toList.length) 0).toNat = 16)):=rfl
 by_cases hn:h.data.toList = []
 ·have hE:h.toList.isEmpty = true:=by rw [ByteArray.toList_eq]; simp [hn]
  have b0:=byteAt_any s 0
  rw [if_pos hn] at HC
  generalize (s.data.toList.getD 0 0).toNat = x at *
  have B0:=hide b0
  have HX:Hid (((x:Int) == 16) = decide (x = 16)):=by rw [Hid,Bool.eq_iff_iff]; simp only [decide_eq_true_eq,beq_iff_eq]; omega
  clear b0 hn
  go_enter Tryz.func117,Tryz.ntmps117
  go_wp2_with (first | (go_at_call 100; refine (B0.out _ hs (by omega)).mono ?_; rintro e w1 ⟨rfl,rfl⟩))
  go_ret
  exact ⟨by rw [HC.out,← HX.out]; rfl,rfl⟩
 ·have hE:h.toList.isEmpty = false:=by rw [ByteArray.toList_eq]; simpa using hn
  have b0:=byteAt_any s (1 + h.size)
  rw [if_neg hn,size_list] at HC
  generalize (s.data.toList.getD (1 + h.size) 0).toNat = x at *
  have B0:=hide b0
  have HX:Hid (((x:Int) == 16) = decide (x = 16)):=by rw [Hid,Bool.eq_iff_iff]; simp only [decide_eq_true_eq,beq_iff_eq]; omega
  have he:Hid ((1:Int) + (h.size:Int) = ((1 + h.size:Nat):Int)):=by unfold Hid; omega
  clear b0 hn
  go_enter Tryz.func117,Tryz.ntmps117
  go_wp2_with (first | (go_at_call 100; rw [he.out]; refine (B0.out _ hs (by omega)).mono ?_; rintro e w1 ⟨rfl,rfl⟩))
  go_ret
  exact ⟨by rw [HC.out,← HX.out]; rfl,rfl⟩
theorem str_eq (s:ByteArray) (l:List UInt8):s = ⟨l.toArray⟩ ↔ s.data.toList = l:=by
 constructor
 ·rintro rfl; rfl
 ·intro h; subst h; exact Is.self s
theorem str_no {s r:ByteArray} (h:¬ s = r):(s.toList == r.toList) = false:=by
 rw [ByteArray.toList_eq,ByteArray.toList_eq]
 simp only [beq_eq_false_iff_ne,ne_eq]
 intro e
 exact h ((str_eq s r.data.toList).2 e |>.trans (Is.self r).symm)
theorem shortKind_any (s:ByteArray) (w:World) :
  Calls Tryz.prog 82 #[.string s] w fun e w'=>∃ n:Nat,e = .returned (.int .i64 n) ∧ Hid (SKind s.data.toList n) ∧ Below w.heap.size w w':=by
 go_enter Tryz.func82,Tryz.ntmps82
 go_wp2
 go_loopw [3] (fun i wr=>∃ k:Nat,3 ≤ k ∧ k ≤ 10 ∧ i = .int .i64 k ∧ Hid (∀ j:Nat,3 ≤ j → j < k → s.data.toList ≠ sbody j ++ [255]) ∧ Below w.heap.size w wr) (fun i _=>10 - (intOf i).toNat)
 case atStart=>exact ⟨3,by omega,by omega,rfl,fun j h1 h2=>by omega,Below.refl _ _⟩
 case round =>
  obtain ⟨k,hk1,hk,rfl,HN,hbel⟩:=hrel
  by_cases hlt:k ≤ 9
  ·have hlt':(k:Int) ≤ 9:=by omega
   have hsz:=sbody_size k
   have HZ:=hide (show (⟨(sbody k).toArray⟩:ByteArray).size ≤ 140737488352000 by rw [(Is.mk _).size]; omega)
   by_cases he:s.data.toList = sbody k ++ [255]
   ·have HE:=hide he
    have hd:s = ⟨((⟨(sbody k).toArray⟩:ByteArray).data.toList ++ [255]).toArray⟩:=(str_eq _ _).2 he
    clear he hsz
    generalize hr:(⟨((⟨(sbody k).toArray⟩:ByteArray).data.toList ++ [255]).toArray⟩:ByteArray) = r at *
    have HR:=hide hr
    clear hr
    subst hd
    go_wp2_with (first | (go_at_call 41; refine (shortBody_any k _).mono ?_; rintro e w1 ⟨rfl,hb1⟩) | (go_at_call 70; refine (padded_any _ _ HZ.out).mono ?_; rintro e w2 ⟨rfl,hb2⟩; rw [HR.out]))
    go_ret
    exact ⟨k,rfl,Or.inl ⟨hk1,hlt,HE.out⟩,below_step (below_step hbel (by assumption)) (by assumption)⟩
   ·have HE:=hide he
    have hd:¬ s = ⟨((⟨(sbody k).toArray⟩:ByteArray).data.toList ++ [255]).toArray⟩:=fun h=>he ((str_eq _ _).1 h)
    clear he hsz
    generalize hr:(⟨((⟨(sbody k).toArray⟩:ByteArray).data.toList ++ [255]).toArray⟩:ByteArray) = r at *
    have HR:=hide hr
    have hd2:=str_no hd
    clear hr
    go_wp2_with (first | (go_at_call 41; refine (shortBody_any k _).mono ?_; rintro e w1 ⟨rfl,hb1⟩) | (go_at_call 70; refine (padded_any _ _ HZ.out).mono ?_; rintro e w2 ⟨rfl,hb2⟩; rw [HR.out]))
    go_roundw
    case rel=>exact ⟨k + 1,by omega,by omega,by go_num,fun j h1 h2=>by
     by_cases hj:j = k
     ·subst hj; exact HE.out
     ·exact HN.out j h1 (by omega),below_step (below_step hbel (by assumption)) (by assumption)⟩
    case measure=>simp [intOf]; omega
  ·have hlt':¬ (k:Int) ≤ 9:=by omega
   go_wp2
   go_ret
   exact ⟨0,rfl,Or.inr ⟨rfl,fun j h1 h2=>HN.out j h1 (by omega)⟩,hbel⟩
theorem drop_one (s:ByteArray) (k:Nat) (h:k < s.size):s.data.toList.drop k = s[k]::s.data.toList.drop (k + 1):=by
 have h':k < s.data.toList.length:=by simpa using h
 rw [List.drop_eq_getElem_cons h']
 rfl
/-- Behind some rounds: the bytes done,and what is still to cut. -/
def CutInv (c:Bool) (s:ByteArray) (o k:Nat) (done:List UInt8):Prop :=
 Prs.cutF c (s.data.toList.drop o) = (done ++ (Prs.cutF c (s.data.toList.drop k)).1,(Prs.cutF c (s.data.toList.drop k)).2.1,(k - o) + (Prs.cutF c (s.data.toList.drop k)).2.2)
theorem CutInv.start (c:Bool) (s:ByteArray) (o:Nat):CutInv c s o o []:=by simp [CutInv]
theorem CutInv.txt {c:Bool} {s:ByteArray} {o k:Nat} {done:List UInt8} (h:CutInv c s o k done) (ho:o ≤ k) (hk:k < s.size) (h1:¬ (c = true ∧ s[k].toNat = 16)) (h2:¬ (c = false ∧ Blk.isCtl s[k] = true)):CutInv c s o (k + 1) (done ++ [s[k]]):=by
 unfold CutInv at *
 rw [h,drop_one s k hk,Prs.cutF_txt c s[k] _ h1 h2]
 simp only [List.append_assoc,List.cons_append,List.nil_append,Prod.mk.injEq,true_and]
 omega
theorem CutInv.two {s:ByteArray} {o k:Nat} {done:List UInt8} (h:CutInv true s o k done) (ho:o ≤ k) (hk:k + 1 < s.size) (h1:s[k].toNat = 16) (h2:s[k + 1].toNat = 16):CutInv true s o (k + 1 + 1) (done ++ [s[k + 1]]):=by
 unfold CutInv at *
 rw [h,drop_one s k (by omega),drop_one s (k + 1) hk,Prs.cutF_two _ _ _ h1 h2]
 simp only [List.append_assoc,List.cons_append,List.nil_append,Prod.mk.injEq,true_and]
 omega
theorem CutInv.fin {c:Bool} {s:ByteArray} {o k:Nat} {done:List UInt8} (h:CutInv c s o k done) (hk:s.size ≤ k):Prs.cutF c (s.data.toList.drop o) = (done,0,k - o):=by
 unfold CutInv at h
 rw [h,List.drop_of_length_le (by simpa using hk)]
 simp [Prs.cutF]
theorem CutInv.ctl {s:ByteArray} {o k:Nat} {done:List UInt8} (h:CutInv false s o k done) (hk:k < s.size) (h1:Blk.isCtl s[k] = true):Prs.cutF false (s.data.toList.drop o) = (done,s[k],k - o + 1):=by
 unfold CutInv at h
 rw [h,drop_one s k hk,Prs.cutF_ctl _ _ h1,List.append_nil]
theorem CutInv.out {s:ByteArray} {o k:Nat} {done:List UInt8} (h:CutInv true s o k done) (hk:k + 1 < s.size) (h1:s[k].toNat = 16) (h2:¬ s[k + 1].toNat = 16):Prs.cutF true (s.data.toList.drop o) = (done,s[k + 1],k - o + 2):=by
 unfold CutInv at h
 rw [h,drop_one s k (by omega),drop_one s (k + 1) hk,Prs.cutF_out _ _ _ h1 h2,List.append_nil]
theorem CutInv.lone {s:ByteArray} {o k:Nat} {done:List UInt8} (h:CutInv true s o k done) (hk:k + 1 = s.size) (h1:s[k].toNat = 16):Prs.cutF true (s.data.toList.drop o) = (done,0,k - o + 2):=by
 unfold CutInv at h
 rw [h,drop_one s k (by omega),List.drop_of_length_le (by simp; omega),Prs.cutF_lone _ h1,List.append_nil]
/-- What a cut answers. -/
def CutAns (c:Bool) (s:ByteArray) (o:Nat) (r:ByteArray) (u:UInt8) (nx:Nat):Prop :=
 Is r (Prs.cutF c (s.data.toList.drop o)).1 ∧ u = (Prs.cutF c (s.data.toList.drop o)).2.1 ∧ nx = o + (Prs.cutF c (s.data.toList.drop o)).2.2
theorem CutAns.mk {c:Bool} {s:ByteArray} {o n nx:Nat} {done:List UInt8} {u:UInt8} (h:Prs.cutF c (s.data.toList.drop o) = (done,u,n)) (hn:nx = o + n):CutAns c s o ⟨done.toArray⟩ u nx:=by
 unfold CutAns
 rw [h]
 exact ⟨rfl,rfl,hn⟩
theorem byteAt_in (s:ByteArray) (k:Nat) (w:World) (hs:s.size ≤ 140737488352000) (hk:k < s.size) :
  Calls Tryz.prog 100 #[.string s,.int .i64 k] w fun e w'=>e = .returned (.int .u8 s[k].toNat) ∧ w' = w:=by
 have h:=byteAt_any s k w hs (by omega)
 rw [getD_in s k hk] at h
 exact h
theorem byteAt_out (s:ByteArray) (k:Nat) (w:World) (hs:s.size ≤ 140737488352000) (hk:¬ k < s.size) (hk2:k ≤ 300000000000000) :
  Calls Tryz.prog 100 #[.string s,.int .i64 k] w fun e w'=>e = .returned (.int .u8 0) ∧ w' = w:=by
 have h:=byteAt_any s k w hs hk2
 rw [getD_out s k hk] at h
 exact h
theorem foundPart_any (s:ByteArray) (o:Nat) (c:Bool) (w:World) (hs:s.size ≤ 140737488352000) (_ho:o ≤ 200000000000000) :
  Calls Tryz.prog 118 #[.string s,.int .i64 o,.bool c] w fun e w'=>∃ (r:ByteArray) (u:UInt8) (nx:Nat),e = .returned (.tuple #[.string r,.int .u8 u.toNat,.int .i64 nx]) ∧ Hid (CutAns c s o r u nx) ∧ r.size ≤ s.size ∧ (nx ≤ s.size + 1 ∨ nx = o) ∧ Below w.heap.size w w':=by
 go_enter Tryz.func118,Tryz.ntmps118
 go_wp2
 go_loopw [1,9] (fun i v wr=>∃ (k:Nat) (done:List UInt8),i = .int .i64 k ∧ o ≤ k ∧ (k ≤ s.size ∨ k = o) ∧ done.length ≤ k ∧ done.length ≤ s.size ∧ OwnB wr w.heap.size v done ∧ Hid (CutInv c s o k done) ∧ Below w.heap.size w wr) (fun i _ _=>s.size - (intOf i).toNat)
 case atStart=>exact ⟨o,[],rfl,by omega,by omega,by simp,by simp,ownB_lit w w.heap.size #[] [] rfl (Nat.le_refl _) (by decide),CutInv.start c s o,(Below.refl _ _).alloc (Nat.le_refl _) _⟩
 case round =>
  obtain ⟨k,done,rfl,hok,hk,hdk,hds,hown,HI,hbel⟩:=hrel
  have hB:=hbel.size
  by_cases hlt:k < s.size
  ·have hlt':(k:Int) < (s.size:Int):=by omega
   cases c
   ·cases hc:Blk.isCtl s[k]
    ·have HC:=hide hc
     have HT:=hide (HI.out.txt hok hlt (by simp) (by simp [hc]))
     clear hc
     go_wp2_with (first | (go_at_call 102; refine (isControl_any s[k] _).mono ?_; rintro e w1 ⟨rfl,rfl⟩; rw [HC.out]) | (at_builtin; refine app_one _ s[k] _ rfl rfl (.tmp 47) (.tmp 49) rfl w.heap.size _ _ _ 1 rfl rfl rfl hown (by omega) w hbel hB ?_; intro v1 W1 hown1 hbel1 hB1))
     go_roundw
     case rel=>exact ⟨k + 1,_,by go_num,by omega,by omega,by simp; omega,by simp; omega,by assumption,HT,by assumption⟩
     case measure=>simp [intOf]; omega
    ·have HC:=hide hc
     have HT:=hide (HI.out.ctl hlt hc)
     have cv:=conv_own _ _ _ _ hown
     have hz:(⟨done.toArray⟩:ByteArray).size ≤ s.size:=hds
     clear hc
     go_wp2_with (first | (go_at_call 102; refine (isControl_any s[k] _).mono ?_; rintro e w1 ⟨rfl,rfl⟩; rw [HC.out]))
     go_ret3
     exact ⟨_,s[k],k + 1,by simp,CutAns.mk HT.out (by omega),hds,by omega,by assumption⟩
   ·by_cases h16:s[k].toNat = 16
    ·have hd:((s[k].toNat:Int) == 16) = true:=by simp [h16]
     by_cases hlt2:k + 1 < s.size
     ·by_cases h17:s[k + 1].toNat = 16
      ·have HT:=hide (HI.out.two hok hlt2 h16 h17)
       have hd2:((s[k + 1].toNat:Int) != 16) = false:=by simp [h17]
       have HB:=hide (fun w=>byteAt_in s (k + 1) w hs hlt2)
       have HN:Hid ((k:Int) + 1 = ((k + 1:Nat):Int)):=by unfold Hid; omega
       clear h16 h17
       go_wp2_with (first | (go_at_call 100; rw [HN.out]; refine (HB.out _).mono ?_; rintro e w1 ⟨rfl,rfl⟩) | (at_builtin; refine app_one _ s[k + 1] _ rfl rfl (.tmp 47) (.tmp 49) rfl w.heap.size _ _ _ 1 rfl rfl rfl hown (by omega) w hbel hB ?_; intro v1 W1 hown1 hbel1 hB1))
       go_roundw
       case rel=>exact ⟨k + 1 + 1,_,by go_num,by omega,by omega,by simp; omega,by simp; omega,by assumption,HT,by assumption⟩
       case measure=>simp [intOf]; omega
      ·have HT:=hide (HI.out.out hlt2 h16 h17)
       have hd2:((s[k + 1].toNat:Int) != 16) = true:=by simp; omega
       have HB:=hide (fun w=>byteAt_in s (k + 1) w hs hlt2)
       have HN:Hid ((k:Int) + 1 = ((k + 1:Nat):Int)):=by unfold Hid; omega
       have cv:=conv_own _ _ _ _ hown
       clear h16 h17
       go_wp2_with (first | (go_at_call 100; rw [HN.out]; refine (HB.out _).mono ?_; rintro e w1 ⟨rfl,rfl⟩))
       go_ret3
       exact ⟨_,s[k + 1],k + 1 + 1,by simp,CutAns.mk HT.out (by omega),hds,by omega,by assumption⟩
     ·have HT:=hide (HI.out.lone (by omega) h16)
      have HB:=hide (fun w=>byteAt_out s (k + 1) w hs hlt2 (by omega))
      have HN:Hid ((k:Int) + 1 = ((k + 1:Nat):Int)):=by unfold Hid; omega
      have cv:=conv_own _ _ _ _ hown
      clear h16
      go_wp2_with (first | (go_at_call 100; rw [HN.out]; refine (HB.out _).mono ?_; rintro e w1 ⟨rfl,rfl⟩))
      go_ret3
      exact ⟨_,0,k + 1 + 1,by simp,CutAns.mk HT.out (by omega),hds,by omega,by assumption⟩
    ·have hd:((s[k].toNat:Int) == 16) = false:=by simp; omega
     have HT:=hide (HI.out.txt hok hlt (by simp [h16]) (by simp))
     clear h16
     go_wp2_with (first | (at_builtin; refine app_one _ s[k] _ rfl rfl (.tmp 47) (.tmp 49) rfl w.heap.size _ _ _ 1 rfl rfl rfl hown (by omega) w hbel hB ?_; intro v1 W1 hown1 hbel1 hB1))
     go_roundw
     case rel=>exact ⟨k + 1,_,by go_num,by omega,by omega,by simp; omega,by simp; omega,by assumption,HT,by assumption⟩
     case measure=>simp [intOf]; omega
  ·have hlt':¬ (k:Int) < (s.size:Int):=by omega
   have HT:=hide (HI.out.fin (by omega))
   have cv:=conv_own _ _ _ _ hown
   go_wp2
   go_ret3
   exact ⟨_,0,k,by simp,CutAns.mk HT.out (by omega),hds,by omega,by assumption⟩
/-- The slice value v,among the blocks from B on,holds just the texts l. -/
def OwnS (w:World) (B:Nat) (v:Value) (l:List ByteArray):Prop:=w.ownsRow B 9 1 v l.length (l.map Value.string)
theorem OwnS.nil (w:World) (B:Nat):OwnS w B (.slice none 0 0) []:=World.ownsRow_nil w B 9 1
theorem OwnS.alloc {w:World} {B:Nat} {v:Value} {l:List ByteArray} (h:OwnS w B v l) (o:Obj):OwnS (w.alloc o) B v l:=World.ownsRow.alloc h o
theorem OwnS.keep {w w':World} {B:Nat} {v:Value} {l:List ByteArray} (h:OwnS w B v l) (hb:∀ g,B ≤ g → g < w.heap.size → w'.heap[g]? = w.heap[g]?):OwnS w' B v l:=by
 obtain ⟨h1,h2⟩:=h
 refine ⟨h1,?_⟩
 rcases h2 with h2 | ⟨g,cap,cur,hv,hB,hh,r⟩
 ·exact Or.inl h2
 ·exact Or.inr ⟨g,cap,cur,hv,hB,(hb g hB (lt_of_block hh)).trans hh,r⟩
theorem OwnS.below {w w':World} {B:Nat} {v:Value} {l:List ByteArray} (h:OwnS w B v l) (hb:Below w.heap.size w w'):OwnS w' B v l:=h.keep fun g _ hg=>hb.block g hg
theorem OwnS.setCell {w:World} {B g o:Nat} {x v:Value} {l:List ByteArray} (h:OwnS w B v l) (hg:g < B):OwnS (w.setCell ⟨g,o,none⟩ x) B v l:=h.keep fun k hk _=>Below.heap_setCell _ _ _ _ (by simp only [ne_eq]; omega)
theorem OwnS.texts {w:World} {B:Nat} {v:Value} {l:List ByteArray} (h:OwnS w B v l):∃ a cap,v = .slice a l.length cap ∧ Texts w a l:=by
 rcases h.2 with ⟨rfl,h0⟩ | ⟨g,cap,cur,rfl,hB,hh,r⟩
 ·have:l = []:=List.eq_nil_of_length_eq_zero h0
  subst this
  exact ⟨none,0,rfl,Or.inl rfl⟩
 ·refine ⟨_,cap,rfl,Or.inr ⟨g,0,rfl,fun i hi=>?_⟩⟩
  have:=World.ownsRow.cellAt h i (by simpa using hi)
  rw [Nat.zero_add,this]
  simp [List.getD,List.getElem?_eq_getElem hi]
section
variable {ops:Array Oper} {rest:List Oper} {o:Oper} {a:Act} {Q:Exit → Act → World → Prop}
theorem app_txt (W:World) (s:ByteArray) (hgd:o.guard = none) (sl x:Operand)
  (ho:o.op = .call { callee:=.builtin .append,args:=#[sl,x],argTypes:=#[37,37] })
  (B:Nat) (v:Value) (l:List ByteArray) (g cp:Nat) (hs:a.eval sl = v) (hx:a.eval x = .slice (some ⟨g,0,none⟩) 1 cp) (hg0:g = W.heap.size) (hown:OwnS W B v l)
  (hlen:l.length ≤ 1000) (w0:World) (hbel:Below B w0 W) (hB:B ≤ W.heap.size)
  (h:∀ v' W',OwnS W' B v' (l ++ [s]) → Below B w0 W' → B ≤ W'.heap.size → wpList Tryz.prog ops Q rest (a.put o.dst v') W') :
  wpList Tryz.prog ops Q (o::rest) a (W.alloc (.cells #[.string s] 9)):=by
 obtain ⟨i0,hi,hz0,hz1,hz2⟩:=info_parts Tryz.infoStr
 subst hg0
 refine wpList_append_own _ hgd sl x 37 ho B 9 i0 (.string ⟨#[]⟩) 1 16 Tryz.underlying37 hi hz0 hz1 hz2 rfl (by decide) v l.length (l.map Value.string) hs (hown.alloc _) ⟨W.heap.size,0,none⟩ 1 cp [.string s] hx rfl
  (cell_one_new _ _ _) (by intro u hu; simp at hu; subst hu; rfl) (by unfold maxLen; omega) (by omega) (by simp; omega) ?_
 intro v' W' ho' hg _
 have hlt:∀ k,v.ownBlock = some k → B ≤ k:=fun k hk=>(World.ownsRow.lt hown k hk).1
 refine h v' W' ?_ ((hbel.alloc hB _).grown hg (by simp; omega) hlt) (by have:=hg.size; simp at this; omega)
 unfold OwnS
 rw [List.map_append,List.length_append]
 exact ho'
end
/-- Behind some parts: where the next one begins,the end of the last,and the texts. -/
def FInv (kk:Int) (s:ByteArray) (k:Nat) (x:UInt8) (l:List ByteArray):Prop :=
 ∀ h0 ps0 c0 t0 y,Prs.Good kk s.data.toList h0 ps0 c0 t0 y → l.length ≤ ps0.length ∧ k = (Prs.pre h0 ps0 c0 t0 kk l.length).length ∧ datas l = ps0.take l.length ∧ x = (if l.length = 0 then 31 else Blk.endC t0 ps0.length (l.length - 1))
theorem FInv.start (kk:Int) (s h:ByteArray) (c:Bool) (k:Nat) (hk:k = (Blk.openL h.data.toList c).length) (hc:∀ h0 ps0 c0 t0 y,Prs.Good kk s.data.toList h0 ps0 c0 t0 y → h.data.toList = h0 ∧ c = c0):FInv kk s k 31 []:=by
 intro h0 ps0 c0 t0 y g
 obtain ⟨rfl,rfl⟩:=hc _ _ _ _ _ g
 exact ⟨Nat.zero_le _,by rw [hk]; rfl,rfl,rfl⟩
theorem FInv.lt {kk:Int} {s:ByteArray} {k:Nat} {x:UInt8} {l:List ByteArray} (h:FInv kk s k x l) (hx:x.toNat = 31) {h0:List UInt8} {ps0:List (List UInt8)} {c0 t0:Bool} {y:List UInt8} (g:Prs.Good kk s.data.toList h0 ps0 c0 t0 y):l.length < ps0.length:=by
 obtain ⟨h1,_,_,h4⟩:=h _ _ _ _ _ g
 have n1:=(Blk.berr_ok g.ok).2.1
 by_cases hz:l.length = 0
 ·omega
 ·rw [if_neg hz] at h4
  rcases Nat.lt_or_ge l.length ps0.length with h | h
  ·exact h
  ·have:=(Prs.endC_end' t0 ps0.length (l.length - 1) (by omega)).1
   rw [← h4] at this
   exact absurd hx this
theorem FInv.step {kk:Int} {s:ByteArray} {k:Nat} {x:UInt8} {l:List ByteArray} (h:FInv kk s k x l) (hx:x.toNat = 31) {c:Bool} {r:ByteArray} {u:UInt8} {nx nn:Nat} (ha:CutAns c s k r u nx)
  (hc:∀ h0 ps0 c0 t0 y,Prs.Good kk s.data.toList h0 ps0 c0 t0 y → c = c0) (hn:nn = nx + (kk.toNat + 1)):FInv kk s nn u (l ++ [r]):=by
 intro h0 ps0 c0 t0 y g
 have hlt:=h.lt hx g
 obtain ⟨h1,h2,h3,h4⟩:=h _ _ _ _ _ g
 have hcc:=hc _ _ _ _ _ g
 subst hcc
 have hcut:=g.cut l.length hlt
 rw [← h2] at hcut
 obtain ⟨a1,a2,a3⟩:=ha
 rw [hcut] at a1 a2 a3
 simp only at a1 a2 a3
 have hl:(l ++ [r]).length = l.length + 1:=by simp
 rw [hl]
 refine ⟨by omega,?_,?_,?_⟩
 ·rw [g.step,← h2,hn,a3]
  omega
 ·rw [List.take_succ_eq_append_getElem hlt,← h3]
  have e:r.data.toList = ps0[l.length]:=by rw [a1.data]; simp [List.getD,List.getElem?_eq_getElem hlt]
  rw [← e]
  simp [datas]
 ·rw [if_neg (by omega),a2]
  simp
theorem FInv.fin {kk:Int} {s:ByteArray} {k:Nat} {x:UInt8} {l:List ByteArray} (h:FInv kk s k x l) (hx:¬ x.toNat = 31 ∨ 4 < l.length) {h0:List UInt8} {ps0:List (List UInt8)} {c0 t0:Bool} {y:List UInt8} (g:Prs.Good kk s.data.toList h0 ps0 c0 t0 y) :
  datas l = ps0 ∧ decide (x.toNat = 3) = t0:=by
 obtain ⟨h1,h2,h3,h4⟩:=h _ _ _ _ _ g
 have n1:=(Blk.berr_ok g.ok).2.1
 have n4:=(Blk.berr_ok g.ok).2.2.1
 have hx:¬ x.toNat = 31:=by rcases hx with h | h; exact h; omega
 by_cases hz:l.length = 0
 ·rw [if_pos hz] at h4; subst h4; exact absurd rfl hx
 ·rw [if_neg hz] at h4
  have hn:l.length = ps0.length:=by
   rcases Nat.lt_or_ge l.length ps0.length with h | h
   ·have:=Prs.endC_mid' t0 ps0.length (l.length - 1) (by omega)
    rw [← h4] at this
    exact absurd this hx
   ·omega
  refine ⟨by rw [h3,hn,List.take_length],?_⟩
  have:=(Prs.endC_end' t0 ps0.length (l.length - 1) (by omega)).2
  rw [← h4] at this
  cases t0 <;> simp_all
def zBlk (w:World) (g:Nat):Prop:=BlkAt w g (.string ⟨#[]⟩) (.slice none 0 0) (.bool false) (.bool false)
theorem blk_set1 {w:World} {g:Nat} {h v c t x:Value} (k:BlkAt w g h v c t):BlkAt (w.setCell ⟨g,1,none⟩ x) g h x c t:=Go.Joins.block_setCell (i:=1) k x
theorem blk_set2 {w:World} {g:Nat} {h v c t x:Value} (k:BlkAt w g h v c t):BlkAt (w.setCell ⟨g,2,none⟩ x) g h v x t:=Go.Joins.block_setCell (i:=2) k x
theorem blk_set3 {w:World} {g:Nat} {h v c t x:Value} (k:BlkAt w g h v c t):BlkAt (w.setCell ⟨g,3,none⟩ x) g h v c x:=Go.Joins.block_setCell (i:=3) k x
theorem blk_other {w:World} {g g' o:Nat} {h v c t x:Value} (k:BlkAt w g h v c t) (hg:g' ≠ g):BlkAt (w.setCell ⟨g',o,none⟩ x) g h v c t:=(Below.heap_setCell _ _ _ _ (by simpa using Ne.symm hg)).trans k
theorem blk_alloc {w:World} {g:Nat} {h v c t:Value} (k:BlkAt w g h v c t) (o:Obj):BlkAt (w.alloc o) g h v c t:=(Below.heap_alloc _ _ _ (lt_of_block k)).trans k
theorem blk_free {w:World} {g:Nat} {h v c t:Value} (k:BlkAt w g h v c t) (i:Nat):w.frozen? ⟨g,i,none⟩ = false:=Go.Joins.unfrozen_of_block k i
theorem noCtl_ok (u:UInt8) (h:Blk.isCtl u = false):noCtl u = true:=by simp [noCtl,h]
theorem opening_is (h:ByteArray) (a:Option Addr) (n cap:Nat) (c t:Bool) (w:World) (hh:h.size ≤ 140737488352000) :
  Calls Tryz.prog 94 #[.agg #[.string h,.slice a n cap,.bool c,.bool t]] w fun e w'=>∃ r,e = .returned (.string r) ∧ Hid (Is r (Blk.openL h.data.toList c)) ∧ r.size ≤ h.size + 3 ∧ Below w.heap.size w w' :=
 (opening_any h a n cap c t w hh).mono fun e w' ⟨he,hb⟩=>⟨_,he,Is.mk _,by rw [(Is.mk _).size]; have:=Blk.openL_length h.data.toList c; rw [size_list] at this; omega,hb⟩
theorem mem_snoc_le {l:List ByteArray} {r:ByteArray} {m:Nat} (h:∀ x ∈ l,x.size ≤ m) (hr:r.size ≤ m):∀ x ∈ l ++ [r],x.size ≤ m:=by
 intro x hx
 rcases List.mem_append.1 hx with h1 | h1
 ·exact h x h1
 ·simp at h1; subst h1; exact hr
def partsLen (w:World) (g:Nat):Nat:=match w.cell? ⟨g,1,none⟩ with | some (.slice _ n _)=>n | _=>0
theorem partsLen_at {w:World} {g:Nat} {h c t:Value} {a:Option Addr} {n cap:Nat} (k:BlkAt w g h (.slice a n cap) c t):partsLen w g = n:=by unfold partsLen; rw [k.cell1]
theorem results_blk {fn:Func} {k:Tmp} (hf:fn.results = #[.cell k 57]) (tmps:Array Value) (w:World) (g:Nat) {h v c t:Value} (ht:tmps.getD k undef = .pointer (some ⟨g,0,none⟩)) (hb:BlkAt w g h v c t) :
  (results fn tmps).run Tryz.prog w = .ok (.agg #[h,v,c,t]) w:=by
 have c0:=hb.cell0
 have c1:=hb.cell1
 have c2:=hb.cell2
 have c3:=hb.cell3
 simp only [Array.getD_eq_getD_getElem?] at ht
 simp [results,hf,ht,go_sem,c0,c1,c2,c3]
theorem blk_all {w:World} {g:Nat} {h v c t h' v' c' t':Value} (k:BlkAt w g h v c t):BlkAt ((((w.setCell ⟨g,0,none⟩ h').setCell ⟨g,1,none⟩ v').setCell ⟨g,2,none⟩ c').setCell ⟨g,3,none⟩ t') g h' v' c' t':=by
 have k0:BlkAt (w.setCell ⟨g,0,none⟩ h') g h' v c t:=Go.Joins.block_setCell (i:=0) k h'
 exact blk_set3 (blk_set2 (blk_set1 k0))
/-- What a search for a block answers: the block,where there is one. -/
def FoundAns (kk:Int) (s:ByteArray) (w:World) (e:Ending) (w':World):Prop :=
 ∃ (h:ByteArray) (v:Value) (l:List ByteArray) (c t:Bool),e = .returned (.agg #[.string h,v,.bool c,.bool t]) ∧ h.size ≤ s.size ∧ Hid (∀ r ∈ l,r.size ≤ s.size) ∧ l.length ≤ 5 ∧ OwnS w' w.heap.size v l ∧ Hid (∀ h0 ps0 c0 t0 y,Prs.Good kk s.data.toList h0 ps0 c0 t0 y → h.data.toList = h0 ∧ datas l = ps0 ∧ c = c0 ∧ t = t0) ∧ Below w.heap.size w w'
theorem OwnS.mono {w:World} {B B':Nat} {v:Value} {l:List ByteArray} (h:OwnS w B v l) (hB:B' ≤ B):OwnS w B' v l:=by
 obtain ⟨h1,h2⟩:=h
 refine ⟨h1,?_⟩
 rcases h2 with h2 | ⟨g,cap,cur,hv,hg,r⟩
 ·exact Or.inl h2
 ·exact Or.inr ⟨g,cap,cur,hv,by omega,r⟩
theorem foundBlock_any (s:ByteArray) (kk:Int) (w:World) (hs:s.size ≤ 140737488352000) (hkk:kk = 0 ∨ kk = 1) :
  Calls Tryz.prog 101 #[.string s,.int .i64 kk] w fun e w'=>FoundAns kk s w e w':=by
 have HK:=hide hkk
 have hk1:0 ≤ kk ∧ kk ≤ 1:=by omega
 clear hkk
 go_enter Tryz.func101,Tryz.ntmps101
 go_wp2_with (first | (go_at_call 116; refine (foundHead_any s _ hs).mono ?_; rintro e w1 ⟨h,rfl,HH,hh,rfl⟩) | (go_at_call 117; refine (foundClear_any s h _ hs hh).mono ?_; rintro e w1 ⟨rfl,rfl⟩))
 generalize hcl:Prs.clearP s.data.toList h.data.toList = c at *
 have HG:Hid (∀ h0 ps0 c0 t0 y,Prs.Good kk s.data.toList h0 ps0 c0 t0 y → h.data.toList = h0 ∧ c = c0):=by
  intro h0 ps0 c0 t0 y g
  have q:=g.head noCtl noCtl_ok rfl rfl
  have e1:h.data.toList = h0:=by rw [HH.out.data]; exact q.1
  refine ⟨e1,?_⟩
  rw [← hcl,e1]
  exact q.2
 have HZ:=hide (blk_alloc (BlkAt.new w (.string ⟨#[]⟩) (.slice none 0 0) (.bool false) (.bool false)) (.cells #[.string h,.slice none 0 0,.bool c,.bool false] 57))
 have HB:=hide (BlkAt.new (w.alloc (.cells #[.string ⟨#[]⟩,.slice none 0 0,.bool false,.bool false] 57)) (.string h) (.slice none 0 0) (.bool c) (.bool false))
 have HW:Hid (Below w.heap.size w ((w.alloc (.cells #[.string ⟨#[]⟩,.slice none 0 0,.bool false,.bool false] 57)).alloc (.cells #[.string h,.slice none 0 0,.bool c,.bool false] 57))):=((Below.refl _ _).alloc (Nat.le_refl _) _).alloc (by simp) _
 clear hcl HH
 refine (opening_is h none 0 0 c false _ (by omega)).mono ?_
 rintro e w2 ⟨r2,rfl,HR2,hr2,hb2⟩
 have hz2:=HZ.out.below hb2 (by simp; omega)
 have hB2:=HB.out.below hb2 (by simp)
 have hw2:=below_step HW.out hb2
 have hS2:OwnS w2 (w.heap.size + 2) (.slice none 0 0) []:=OwnS.nil _ _
 have hsz2:w.heap.size + 2 ≤ w2.heap.size:=by have:=hb2.size; simp at this; omega
 simp only [World.size_alloc] at hB2
 have HS:=hide (FInv.start kk s h c r2.size HR2.out.size HG.out)
 clear HZ HB HW hb2 HR2
 go_wp2
 go_loopw [7,8] (fun i u wr=>∃ (k:Nat) (x:UInt8) (l:List ByteArray) (v:Value),i = .int .i64 k ∧ u = .int .u8 x.toNat ∧ l.length ≤ 5 ∧ k ≤ s.size + 3 + 2 * l.length ∧ Hid (∀ r ∈ l,r.size ≤ s.size) ∧ Hid (FInv kk s k x l) ∧ OwnS wr (w.heap.size + 2) v l ∧ zBlk wr w.heap.size ∧ BlkAt wr (w.heap.size + 1) (.string h) v (.bool c) (.bool false) ∧ w.heap.size + 2 ≤ wr.heap.size ∧ Below w.heap.size w wr) (fun _ _ wr=>6 - partsLen wr (w.heap.size + 1))
 case atStart=>exact ⟨r2.size,31,[],.slice none 0 0,rfl,rfl,by simp,by simp; omega,by simp [Hid],HS,hS2,hz2,hB2,hsz2,hw2⟩
 case round =>
  obtain ⟨k,x,l,v,rfl,rfl,hl5,hk,HL,HF,hS,hz,hB,hsz,hbel⟩:=hrel
  obtain ⟨a,cap,rfl,_⟩:=hS.texts
  have HPL:=hide (partsLen_at hB)
  have f1:=hB.cell1
  have f2:=hB.cell2
  by_cases hgo:x.toNat = 31 ∧ l.length ≤ 4
  ·have d1:((x.toNat:Int) == 31) = true:=by simp [hgo.1]
   have d2:(l.length:Int) ≤ 4:=by omega
   have HX:=hide hgo.1
   have hl4:=hgo.2
   clear hgo
   have HS:=hide hS
   have HZ:=hide hz
   have HB:=hide hB
   clear hS hz hB
   go_wp2_with (first | (go_at_call 118; refine (foundPart_any s k c _ hs (by omega)).mono ?_; rintro e w1 ⟨r,u,nx,rfl,HA,hr,hnx,hb1⟩; have f3:=(HB.out.below hb1 (lt_of_block HB.out)).cell1) | (at_builtin; refine app_txt _ r rfl (.tmp 42) (.tmp 44) rfl (w.heap.size + 2) _ l _ 1 rfl rfl rfl (HS.out.below hb1) (by omega) w1 (Below.refl _ _) (by have:=hb1.size; omega) ?_; intro v2 W2 hS2 hbel2 hB2; obtain ⟨a2,cap2,rfl,_⟩:=hS2.texts; rw [List.length_append] at hS2; have HS2:=hide hS2; clear hS2; have f4:=((HB.out.below hb1 (lt_of_block HB.out)).below hbel2 (by omega)).cell1; have f5:=blk_free ((HB.out.below hb1 (lt_of_block HB.out)).below hbel2 (by omega)) 1) | (go_at_call 119; refine (checkLength_any kk _ HK.out).mono ?_; rintro e w1 ⟨rfl,rfl⟩))
   go_roundw
   case rel =>
    refine ⟨nx + (kk.toNat + 1),u,l ++ [r],.slice a2 (l.length + 1) cap2,by go_num,rfl,by simp; omega,by simp; omega,mem_snoc_le HL.out hr,HF.out.step HX.out HA.out (fun h0 ps0 c0 t0 y g=>(HG.out _ _ _ _ _ g).2) rfl,HS2.out.setCell (by omega),?_,?_,by simp; omega,?_⟩
    ·exact blk_other ((HZ.out.below hb1 (lt_of_block HZ.out)).below hbel2 (by omega)) (by omega)
    ·exact blk_set1 ((HB.out.below hb1 (lt_of_block HB.out)).below hbel2 (by omega))
    ·exact ((below_step hbel hb1).trans (hbel2.mono (by omega))).setCell (by simp) _
   case measure =>
    rw [HPL.out,partsLen_at (blk_set1 ((HB.out.below hb1 (lt_of_block HB.out)).below hbel2 (by omega)))]
    simp
    omega
  ·have HS:=hide hS
   have HZ:=hide hz
   have HB:=hide hB
   have f3:=hB.cell3
   have f0:=hB.cell0
   have q3:=blk_free hB 3
   have z0:=hz.cell0
   have z1:=hz.cell1
   have z2:=hz.cell2
   have z3:=hz.cell3
   have y0:=blk_free hz 0
   have y1:=blk_free hz 1
   have y2:=blk_free hz 2
   have y3:=blk_free hz 3
   clear hS hz hB
   by_cases h31:x.toNat = 31
   ·have d1:((x.toNat:Int) == 31) = true:=by simp [h31]
    have d2:¬ (l.length:Int) ≤ 4:=by omega
    have HX:Hid (¬ x.toNat = 31 ∨ 4 < l.length):=Or.inr (by omega)
    clear hgo h31
    go_wp2
    (try simp only [Exit.inBlock,Exit.then])
    refine bodyPost_ret (results_blk rfl _ _ w.heap.size rfl (blk_all (blk_other HZ.out (by omega)))) rfl ?_
    refine ⟨h,_,l,c,((x.toNat:Int) == 3),rfl,hh,HL,hl5,((((((HS.out.setCell (by omega)).setCell (by omega)).setCell (by omega)).setCell (by omega)).setCell (by omega)).mono (by omega)),?_,((((hbel.setCell (by simp) _).setCell (by simp) _).setCell (by simp) _).setCell (by simp) _).setCell (by simp) _⟩
    intro h0 ps0 c0 t0 y g
    have q:=HF.out.fin HX.out g
    have q2:=HG.out _ _ _ _ _ g
    refine ⟨q2.1,q.1,q2.2,?_⟩
    rw [← q.2,Bool.eq_iff_iff]
    simp only [decide_eq_true_eq,beq_iff_eq]
    omega
   ·have d1:((x.toNat:Int) == 31) = false:=by simp; omega
    have HX:Hid (¬ x.toNat = 31 ∨ 4 < l.length):=Or.inl h31
    clear hgo h31
    go_wp2
    (try simp only [Exit.inBlock,Exit.then])
    refine bodyPost_ret (results_blk rfl _ _ w.heap.size rfl (blk_all (blk_other HZ.out (by omega)))) rfl ?_
    refine ⟨h,_,l,c,((x.toNat:Int) == 3),rfl,hh,HL,hl5,((((((HS.out.setCell (by omega)).setCell (by omega)).setCell (by omega)).setCell (by omega)).setCell (by omega)).mono (by omega)),?_,((((hbel.setCell (by simp) _).setCell (by simp) _).setCell (by simp) _).setCell (by simp) _).setCell (by simp) _⟩
    intro h0 ps0 c0 t0 y g
    have q:=HF.out.fin HX.out g
    have q2:=HG.out _ _ _ _ _ g
    refine ⟨q2.1,q.1,q2.2,?_⟩
    rw [← q.2,Bool.eq_iff_iff]
    simp only [decide_eq_true_eq,beq_iff_eq]
    omega
/-- Block g holds the five cells of what is heard. -/
def HrdAt (w:World) (g:Nat) (n h v c t:Value):Prop:=w.heap[g]? = some (.cells #[n,h,v,c,t] 98 (0,0))
theorem HrdAt.cell {w:World} {g:Nat} {n h v c t:Value} (k:HrdAt w g n h v c t):w.cell? ⟨g,0,none⟩ = some n ∧ w.cell? ⟨g,1,none⟩ = some h ∧ w.cell? ⟨g,2,none⟩ = some v ∧ w.cell? ⟨g,3,none⟩ = some c ∧ w.cell? ⟨g,4,none⟩ = some t:=by
 unfold HrdAt at k; simp [World.cell?,k]
theorem HrdAt.free {w:World} {g:Nat} {n h v c t:Value} (k:HrdAt w g n h v c t) (i:Nat):w.frozen? ⟨g,i,none⟩ = false:=Go.Joins.unfrozen_of_block k i
theorem HrdAt.new (w:World) (n h v c t:Value):HrdAt (w.alloc (.cells #[n,h,v,c,t] 98)) w.heap.size n h v c t:=heap_alloc_new w _
theorem HrdAt.below {w w':World} {g B:Nat} {n h v c t:Value} (k:HrdAt w g n h v c t) (hb:Below B w w') (hg:g < B):HrdAt w' g n h v c t:=(hb.block g hg).trans k
theorem HrdAt.alloc {w:World} {g:Nat} {n h v c t:Value} (k:HrdAt w g n h v c t) (o:Obj):HrdAt (w.alloc o) g n h v c t:=(Below.heap_alloc _ _ _ (lt_of_block k)).trans k
theorem HrdAt.all {w:World} {g:Nat} {n h v c t n' h' v' c' t':Value} (k:HrdAt w g n h v c t):HrdAt (((((w.setCell ⟨g,0,none⟩ n').setCell ⟨g,1,none⟩ h').setCell ⟨g,2,none⟩ v').setCell ⟨g,3,none⟩ c').setCell ⟨g,4,none⟩ t') g n' h' v' c' t':=by
 have k0:HrdAt (w.setCell ⟨g,0,none⟩ n') g n' h v c t:=Go.Joins.block_setCell (i:=0) k n'
 have k1:HrdAt ((w.setCell ⟨g,0,none⟩ n').setCell ⟨g,1,none⟩ h') g n' h' v c t:=Go.Joins.block_setCell (i:=1) k0 h'
 have k2:HrdAt (((w.setCell ⟨g,0,none⟩ n').setCell ⟨g,1,none⟩ h').setCell ⟨g,2,none⟩ v') g n' h' v' c t:=Go.Joins.block_setCell (i:=2) k1 v'
 have k3:HrdAt ((((w.setCell ⟨g,0,none⟩ n').setCell ⟨g,1,none⟩ h').setCell ⟨g,2,none⟩ v').setCell ⟨g,3,none⟩ c') g n' h' v' c' t:=Go.Joins.block_setCell (i:=3) k2 c'
 exact Go.Joins.block_setCell (i:=4) k3 t'
theorem results_hrd {fn:Func} {k:Tmp} (hf:fn.results = #[.cell k 98]) (tmps:Array Value) (w:World) (g:Nat) {n h v c t:Value} (ht:tmps.getD k undef = .pointer (some ⟨g,0,none⟩)) (hb:HrdAt w g n h v c t) :
  (results fn tmps).run Tryz.prog w = .ok (.agg #[n,h,v,c,t]) w:=by
 obtain ⟨c0,c1,c2,c3,c4⟩:=hb.cell
 simp only [Array.getD_eq_getD_getElem?] at ht
 simp [results,hf,ht,go_sem,c0,c1,c2,c3,c4]
theorem below_five {w w':World} {B g:Nat} (h:Below B w w') (hg:B ≤ g) (a b c d e:Value):Below B w (((((w'.setCell ⟨g,0,none⟩ a).setCell ⟨g,1,none⟩ b).setCell ⟨g,2,none⟩ c).setCell ⟨g,3,none⟩ d).setCell ⟨g,4,none⟩ e) :=
 ((((h.setCell hg _).setCell hg _).setCell hg _).setCell hg _).setCell hg _
theorem own_five {w:World} {B g:Nat} {v:Value} {l:List ByteArray} (h:OwnS w B v l) (hg:g < B) (a b c d e:Value):OwnS (((((w.setCell ⟨g,0,none⟩ a).setCell ⟨g,1,none⟩ b).setCell ⟨g,2,none⟩ c).setCell ⟨g,3,none⟩ d).setCell ⟨g,4,none⟩ e) B v l :=
 ((((h.setCell hg).setCell hg).setCell hg).setCell hg).setCell hg
/-- What is heard of a rest that begins as a block. -/
def HeardAns (kk:Int) (s:ByteArray) (w:World) (e:Ending) (w':World):Prop :=
 ((∃ (h:ByteArray) (v:Value) (l:List ByteArray) (c t:Bool),e = .returned (.agg #[.int .i64 2,.string h,v,.bool c,.bool t]) ∧ OwnS w' w.heap.size v l ∧ Prs.Good kk s.data.toList h.data.toList (datas l) c t [255]) ∨
 (e = .returned (.agg #[.int .i64 1,.string ⟨#[]⟩,.slice none 0 0,.bool false,.bool false]) ∧ ∀ h0 ps0 c0 t0,¬ Prs.Good kk s.data.toList h0 ps0 c0 t0 [255])) ∧ Below w.heap.size w w'
theorem heardBlock_any (s:ByteArray) (kk:Int) (w:World) (hs:s.size ≤ 140737488352000) (hkk:kk = 0 ∨ kk = 1) :
  Calls Tryz.prog 81 #[.string s,.int .i64 kk] w fun e w'=>HeardAns kk s w e w':=by
 have HK:=hide hkk
 clear hkk
 go_enter Tryz.func81,Tryz.ntmps81
 have HH0:=hide (HrdAt.new w (.int .i64 0) (.string ⟨#[]⟩) (.slice none 0 0) (.bool false) (.bool false))
 go_wp2_with fail
 refine (foundBlock_any s kk _ hs HK.out).mono ?_
 rintro e w1 ⟨h,v,l,c,t,rfl,hh,HL,hl5,hS,HG,hb1⟩
 obtain ⟨a,cap,rfl,htx⟩:=hS.texts
 have hH1:=HH0.out.below hb1 (by simp)
 have hw1:Below w.heap.size w w1:=below_step ((Below.refl _ _).alloc (Nat.le_refl _) _) hb1
 have HH2:=hide (hH1.alloc (.cells #[.string h,.slice a l.length cap,.bool c,.bool t] 57))
 have HB2:=hide (BlkAt.new w1 (.string h) (.slice a l.length cap) (.bool c) (.bool t))
 have hb2:Below w1.heap.size w1 (w1.alloc (.cells #[.string h,.slice a l.length cap,.bool c,.bool t] 57)):=(Below.refl _ _).alloc (Nat.le_refl _) _
 have HW2:=hide (below_step hw1 hb2)
 have HT2:=hide (htx.below hb2)
 have hS2:=hS.below hb2
 simp only [World.size_alloc] at hS2
 have HS2:=hide hS2
 have hlt:w.heap.size < w1.heap.size:=lt_of_block hH1
 clear hS hS2 htx hb1 hb2 hH1 hw1 HH0
 have HLL:Hid (∀ r ∈ l,r.size ≤ 140737488352000):=fun r hr=>Nat.le_trans (HL.out r hr) hs
 generalize hW2:w1.alloc (.cells #[.string h,.slice a l.length cap,.bool c,.bool t] 57) = W2 at *
 have hz2:W2.heap.size = w1.heap.size + 1:=by rw [← hW2]; simp
 have HQ:=hide hW2
 clear hW2
 by_cases hz:Blk.berr h.data.toList (datas l) c = 0
 ·have HZ:=hide hz
  obtain ⟨g1,g2,g3,g4⟩:=Blk.berr_ok hz
  have G1:=Blk.headOk_le g1
  rw [size_list] at G1
  rw [datas_length] at g2 g3
  have G4:=hide (getD_le (Blk.parts_le g4))
  have HBL:=hide (Blk.bodyTo_length h.data.toList (datas l) c t kk 32 (Blk.parts_le g4) l.length)
  rw [size_list] at HBL
  obtain ⟨b,o,rfl,hcell⟩:∃ b o,a = some ⟨b,o,none⟩ ∧ ∀ i,i < l.length → W2.cell? ⟨b,o + i,none⟩ = some (.string (l.getD i ByteArray.empty)):=by
   rcases HT2.out with h | h
   ·subst h; simp at g2
   ·exact h
  have HC:=hide hcell
  clear hcell g1 g4 hz
  go_wp2_with fail
  rw [HQ.out]
  refine (blockError_any h _ l cap c t _ (by omega) HLL.out (by omega) HT2.out).mono ?_
  rintro e w3 ⟨rfl,hb3⟩
  rw [HZ.out]
  have hB3:=HB2.out.below hb3 (by omega)
  have k0:=hB3.cell0
  have k1:=hB3.cell1
  have k2:=hB3.cell2
  have k3:=hB3.cell3
  have HB3:=hide hB3
  clear hB3
  go_wp2_with fail
  refine (blockBody_any h b o l cap c t kk _ HK.out G1 G4.out (by omega) ?_).mono ?_
  ·intro i hi
   exact cell_later hb3 (HC.out i hi)
  rintro e w4 ⟨rfl,hb4⟩
  have hB4:=HB3.out.below hb4 (lt_of_block HB3.out)
  have HZ4:Hid ((⟨(Blk.body h.data.toList (datas l) c t kk).toArray⟩:ByteArray).size ≤ 140737488352000):=by
   have h1:=HBL.out
   have h2:l.length * (h.size + 2 * 32 + 7) ≤ 4 * (8 + 2 * 32 + 7):=Nat.mul_le_mul (by omega) (by omega)
   rw [Hid,(Is.mk _).size]
   unfold Blk.body
   rw [datas_length]
   omega
  go_wp2_with fail
  refine (padded_any _ _ HZ4.out).mono ?_
  rintro e w5 ⟨rfl,hb5⟩
  have hB5:=hB4.below hb5 (lt_of_block hB4)
  have m0:=hB5.cell0
  have m1:=hB5.cell1
  have m2:=hB5.cell2
  have m3:=hB5.cell3
  have hw5:=below_step (below_step hb3 hb4) hb5
  have hH5:=HH2.out.below hw5 (by omega)
  obtain ⟨c0,c1,c2,c3,c4⟩:=hH5.cell
  have y0:=hH5.free 0
  have y1:=hH5.free 1
  have y2:=hH5.free 2
  have y3:=hH5.free 3
  have y4:=hH5.free 4
  have HH5:=hide hH5
  have HW5:=hide hw5
  clear hH5 hw5 hb3 hb4 hb5 hB4 hB5
  by_cases he:s.data.toList = Blk.body h.data.toList (datas l) c t kk ++ [255]
  ·have hd:s = ⟨((⟨(Blk.body h.data.toList (datas l) c t kk).toArray⟩:ByteArray).data.toList ++ [255]).toArray⟩:=(str_eq _ _).2 he
   have HE:=hide he
   clear he
   rw [← hd]
   clear hd
   go_wp2
   (try simp only [Exit.inBlock,Exit.then])
   refine bodyPost_ret (results_hrd rfl _ _ w.heap.size rfl (HrdAt.all HH5.out)) rfl ?_
   refine ⟨Or.inl ⟨h,_,l,c,t,rfl,?_,⟨HZ.out,HK.out,HE.out⟩⟩,below_five (HW2.out.trans (HW5.out.mono (by omega))) (Nat.le_refl _) _ _ _ _ _⟩
   exact (own_five (HS2.out.below HW5.out) (by omega) _ _ _ _ _).mono (by omega)
  ·have hd:¬ s = ⟨((⟨(Blk.body h.data.toList (datas l) c t kk).toArray⟩:ByteArray).data.toList ++ [255]).toArray⟩:=fun h=>he ((str_eq _ _).1 h)
   have HE:=hide he
   clear he
   generalize hr:(⟨((⟨(Blk.body h.data.toList (datas l) c t kk).toArray⟩:ByteArray).data.toList ++ [255]).toArray⟩:ByteArray) = r at *
   have hd2:=str_no hd
   clear hr
   go_wp2
   (try simp only [Exit.inBlock,Exit.then])
   refine bodyPost_ret (results_hrd rfl _ _ w.heap.size rfl (HrdAt.all HH5.out)) rfl ?_
   refine ⟨Or.inr ⟨rfl,?_⟩,below_five (HW2.out.trans (HW5.out.mono (by omega))) (Nat.le_refl _) _ _ _ _ _⟩
   intro h0 ps0 c0 t0 g
   obtain ⟨rfl,rfl,rfl,rfl⟩:=HG.out _ _ _ _ _ g
   exact HE.out g.eq
 ·have HZ:=hide hz
  generalize hbz:Blk.berr h.data.toList (datas l) c = z at *
  have HBZ:=hide hbz
  have hnz:(z != 0) = true:=by simp [hz]
  clear hz hbz
  go_wp2_with fail
  rw [HQ.out]
  refine (blockError_any h _ l cap c t _ (by omega) HLL.out (by omega) HT2.out).mono ?_
  rintro e w3 ⟨rfl,hb3⟩
  rw [HBZ.out]
  have hH5:=HH2.out.below hb3 (by omega)
  obtain ⟨c0,c1,c2,c3,c4⟩:=hH5.cell
  have y0:=hH5.free 0
  have y1:=hH5.free 1
  have y2:=hH5.free 2
  have y3:=hH5.free 3
  have y4:=hH5.free 4
  have HH5:=hide hH5
  have HW5:=hide hb3
  clear hH5 hb3
  go_wp2
  (try simp only [Exit.inBlock,Exit.then])
  refine bodyPost_ret (results_hrd rfl _ _ w.heap.size rfl (HrdAt.all HH5.out)) rfl ?_
  refine ⟨Or.inr ⟨rfl,?_⟩,below_five (HW2.out.trans (HW5.out.mono (by omega))) (Nat.le_refl _) _ _ _ _ _⟩
  intro h0 ps0 c0 t0 g
  obtain ⟨rfl,rfl,rfl,rfl⟩:=HG.out _ _ _ _ _ g
  exact HZ.out (HBZ.out.symm.trans g.ok)
def zHeard (n:Nat):Value:=.agg #[.int .i64 n,.string ⟨#[]⟩,.slice none 0 0,.bool false,.bool false]
/-- The value x,in the world w with its list among the blocks from B on,is this answer. -/
def AnsAt (w:World) (B:Nat) (x:Value):Ans → Prop
 | .data h ps c t=>∃ (hb:ByteArray) (v:Value) (lb:List ByteArray),x = .agg #[.int .i64 2,.string hb,v,.bool c,.bool t] ∧ hb.data.toList = h ∧ datas lb = ps ∧ OwnS w B v lb
 | .none n=>x = zHeard n
def ReadPost (kk:Int) (l:List UInt8) (w:World) (e:Ending) (w':World):Prop :=
 ∃ A x,e = .returned (.tuple #[x,.int .i64 0]) ∧ ReadsAs kk l A ∧ AnsAt w' w.heap.size x A ∧ Below w.heap.size w w'
theorem results_hrd2 {fn:Func} {k j:Tmp} (hf:fn.results = #[.cell k 98,.tmp j]) (tmps:Array Value) (w:World) (g:Nat) {n h v c t:Value} (ht:tmps.getD k undef = .pointer (some ⟨g,0,none⟩)) (hb:HrdAt w g n h v c t) :
  (results fn tmps).run Tryz.prog w = .ok (.tuple #[.agg #[n,h,v,c,t],tmps.getD j undef]) w:=by
 obtain ⟨c0,c1,c2,c3,c4⟩:=hb.cell
 simp only [Array.getD_eq_getD_getElem?] at ht
 simp [results,hf,ht,go_sem,c0,c1,c2,c3,c4]
theorem read_no (s:ByteArray) (kk:Int) (w:World) (hk:¬ (kk = 0 ∨ kk = 1)) :
  Calls Tryz.prog 49 #[.string s,.int .i64 kk] w fun e w'=>e = .returned (.tuple #[zHeard 0,.int .i64 1]) ∧ Below w.heap.size w w':=by
 have hd:Hid (decide (kk = 0 ∨ kk = 1) = false):=by simp [Hid,hk]
 have hH:=HrdAt.new w (.int .i64 0) (.string ⟨#[]⟩) (.slice none 0 0) (.bool false) (.bool false)
 have hw:Below w.heap.size w (w.alloc (.cells #[.int .i64 0,.string ⟨#[]⟩,.slice none 0 0,.bool false,.bool false] 98)):=(Below.refl _ _).alloc (Nat.le_refl _) _
 have HH:=hide hH
 have HW:=hide hw
 clear hH hw hk
 go_enter Tryz.func49,Tryz.ntmps49
 go_wp2_with (first | (go_at_call 67; refine (isCheck_any kk _).mono ?_; rintro e w1 ⟨rfl,rfl⟩; rw [hd.out]))
 (try simp only [Exit.inBlock,Exit.then])
 refine bodyPost_ret (results_hrd2 rfl _ _ w.heap.size rfl HH.out) rfl ?_
 exact ⟨rfl,HW.out⟩
theorem five_keep (w:World) (g:Nat) (a b c d e:Value) (k:Nat) (hk:k ≠ g):(((((w.setCell ⟨g,0,none⟩ a).setCell ⟨g,1,none⟩ b).setCell ⟨g,2,none⟩ c).setCell ⟨g,3,none⟩ d).setCell ⟨g,4,none⟩ e).heap[k]? = w.heap[k]?:=by
 rw [Below.heap_setCell _ _ _ _ (by simpa using hk),Below.heap_setCell _ _ _ _ (by simpa using hk),Below.heap_setCell _ _ _ _ (by simpa using hk),Below.heap_setCell _ _ _ _ (by simpa using hk),Below.heap_setCell _ _ _ _ (by simpa using hk)]
theorem read_any (s:ByteArray) (kk:Int) (w:World) (hs:s.size ≤ 140737488352000) (hk:kk = 0 ∨ kk = 1) :
  Calls Tryz.prog 49 #[.string s,.int .i64 kk] w fun e w'=>ReadPost kk s.data.toList w e w':=by
 have hd:Hid (decide (kk = 0 ∨ kk = 1) = true):=by simp [Hid,hk]
 have HK:=hide hk
 have hH:=HrdAt.new w (.int .i64 0) (.string ⟨#[]⟩) (.slice none 0 0) (.bool false) (.bool false)
 have hw:Below w.heap.size w (w.alloc (.cells #[.int .i64 0,.string ⟨#[]⟩,.slice none 0 0,.bool false,.bool false] 98)):=(Below.refl _ _).alloc (Nat.le_refl _) _
 have HH:=hide hH
 have HW:=hide hw
 clear hH hw hk
 go_enter Tryz.func49,Tryz.ntmps49
 go_wp2_with (first | (go_at_call 67; refine (isCheck_any kk _).mono ?_; rintro e w1 ⟨rfl,rfl⟩; rw [hd.out]) | (go_at_call 79; refine (behindSyns_any s _ hs).mono ?_; rintro e w1 ⟨r,rfl,HR,hr,rfl⟩))
 refine (beginsBlock_any r _ (by omega)).mono ?_
 rintro e w1 ⟨rfl,rfl⟩
 generalize hW1:w.alloc (.cells #[.int .i64 0,.string ⟨#[]⟩,.slice none 0 0,.bool false,.bool false] 98) = W1 at *
 have hz1:W1.heap.size = w.heap.size + 1:=by rw [← hW1]; simp
 clear hW1
 cases hb:begins r.data.toList
 ·have HB:=hide hb
  clear hb
  go_wp2_with fail
  refine (shortKind_any r _).mono ?_
  rintro e w2 ⟨n,rfl,HN,hb2⟩
  have hH2:=HH.out.below hb2 (by omega)
  obtain ⟨c0,c1,c2,c3,c4⟩:=hH2.cell
  have y0:=hH2.free 0
  have y1:=hH2.free 1
  have y2:=hH2.free 2
  have y3:=hH2.free 3
  have y4:=hH2.free 4
  have HH2:=hide hH2
  have HW2:=hide (HW.out.trans (hb2.mono (by omega)))
  clear hH2 hb2
  go_wp2
  (try simp only [Exit.inBlock,Exit.then])
  refine bodyPost_ret (results_hrd2 rfl _ _ w.heap.size rfl (HrdAt.all HH2.out)) rfl ?_
  refine ⟨.none n,_,rfl,Or.inr ⟨?_,?_⟩,rfl,below_five HW2.out (Nat.le_refl _) _ _ _ _ _⟩
  ·rw [← HR.out.data]; exact HB.out
  ·rw [← HR.out.data]; exact HN.out
 ·have HB:=hide hb
  clear hb
  go_wp2_with fail
  refine (heardBlock_any r kk _ (by omega) HK.out).mono ?_
  rintro e w2 ⟨(⟨h,v,l,c,t,rfl,hS,hg⟩ | ⟨rfl,hg⟩),hb2⟩
  ·obtain ⟨a,cap,rfl,_⟩:=hS.texts
   have hH2:=HH.out.below hb2 (by omega)
   obtain ⟨c0,c1,c2,c3,c4⟩:=hH2.cell
   have y0:=hH2.free 0
   have y1:=hH2.free 1
   have y2:=hH2.free 2
   have y3:=hH2.free 3
   have y4:=hH2.free 4
   have HH2:=hide hH2
   have HW2:=hide (HW.out.trans (hb2.mono (by omega)))
   have HG:=hide hg
   have HS:=hide hS
   clear hH2 hb2 hS hg
   go_wp2
   (try simp only [Exit.inBlock,Exit.then])
   refine bodyPost_ret (results_hrd2 rfl _ _ w.heap.size rfl (HrdAt.all HH2.out)) rfl ?_
   refine ⟨.data h.data.toList (datas l) c t,_,rfl,⟨?_,?_⟩,⟨h,_,l,rfl,rfl,rfl,?_⟩,below_five HW2.out (Nat.le_refl _) _ _ _ _ _⟩
   ·rw [← HR.out.data]; exact HB.out
   ·rw [← HR.out.data]; exact HG.out
   ·exact (own_five HS.out (by omega) _ _ _ _ _).mono (by omega)
  ·have hH2:=HH.out.below hb2 (by omega)
   obtain ⟨c0,c1,c2,c3,c4⟩:=hH2.cell
   have y0:=hH2.free 0
   have y1:=hH2.free 1
   have y2:=hH2.free 2
   have y3:=hH2.free 3
   have y4:=hH2.free 4
   have HH2:=hide hH2
   have HW2:=hide (HW.out.trans (hb2.mono (by omega)))
   have HG:=hide hg
   clear hH2 hb2 hg
   go_wp2
   (try simp only [Exit.inBlock,Exit.then])
   refine bodyPost_ret (results_hrd2 rfl _ _ w.heap.size rfl (HrdAt.all HH2.out)) rfl ?_
   refine ⟨.none 1,_,rfl,Or.inl ⟨?_,rfl,?_⟩,rfl,below_five HW2.out (Nat.le_refl _) _ _ _ _ _⟩
   ·rw [← HR.out.data]; exact HB.out
   ·rw [← HR.out.data]; exact HG.out
end Go.Proofs.YtlbpjcphhocdkaaGreat
