/- The document's Encode, whole: it answers as the program's does. The document's functions beneath Read: what is left behind the SYN, and a part. -/
import Derived.Test.YtlbpjcphhocdkaaGreatQ14
import Derived.Test.YtlbpjcphhocdkaaGreatQ02
set_option maxRecDepth 1000000
set_option maxHeartbeats 16000000
namespace Go.Proofs.YtlbpjcphhocdkaaGreat
open Go.RowKit
theorem bodyOf_any (h:ByteArray) (b o:Nat) (l:List ByteArray) (cap:Nat) (c t:Bool) (k:Int) (w:World)
  (hk:k = 0 ∨ k = 1) (hh:h.size ≤ 8) (hl:∀ i,(l.getD i ByteArray.empty).size ≤ 32) (hn:l.length ≤ 4) (hn1:1 ≤ l.length)
  (ht:∀ i,i < l.length → w.cell? ⟨b,o + i,none⟩ = some (.string (l.getD i ByteArray.empty))) :
  Calls Tryz.prog 75 #[.agg #[.string h,.slice (some ⟨b,o,none⟩) l.length cap,.bool c,.bool t],.int .i64 k] w fun e w'=>∃ r,e = .returned (.string r) ∧ Hid (Is r (Blk.body h.data.toList (datas l) c t k)) ∧ r.size ≤ 1000 ∧ Below w.heap.size w w':=by
 cases c
 ·exact bodyOf_false h b o l cap t k w hk hh hl hn hn1 ht
 ·exact bodyOf_true h b o l cap t k w hk hh hl hn hn1 ht
theorem is_wrap {r:ByteArray} {l:List UInt8} (h:Is r l):(⟨#[22,22]⟩ ++ r ++ ⟨#[255]⟩:ByteArray) = ⟨([22,22] ++ l ++ [255]).toArray⟩ :=
 ((Is.mk [22,22]).append h).append (Is.mk [255])
theorem refEncode_any (h:ByteArray) (a:Option Addr) (l:List ByteArray) (cap:Nat) (c t:Bool) (k:Int) (w:World)
  (hh:h.size ≤ 140737488352000) (hl:∀ s ∈ l,s.size ≤ 140737488352000) (hn:l.length ≤ 140737488352000) (ht:Texts w a l) :
  Calls Tryz.prog 46 #[.agg #[.string h,.slice a l.length cap,.bool c,.bool t],.int .i64 k] w fun e w'=>e = .returned (.tuple #[.string ⟨(Blk.encS h.data.toList (datas l) c t k).toArray⟩,.int .i64 (Blk.encE h.data.toList (datas l) c k)]) ∧ Below w.heap.size w w':=by
 have HBK:=hide (BlkAt.new w (.string h) (.slice a l.length cap) (.bool c) (.bool t))
 have hbel0:Below w.heap.size w (w.alloc (.cells #[.string h,.slice a l.length cap,.bool c,.bool t] 57)):=(Below.refl _ _).alloc (Nat.le_refl _) _
 have HB0:=hide hbel0
 have ht1:=ht.below hbel0
 clear hbel0
 by_cases hk:k = 0 ∨ k = 1
 ·have hd:Hid (decide (k = 0 ∨ k = 1) = true):=by simp [Hid,hk]
  have HK:=hide hk
  have hE:Blk.encE h.data.toList (datas l) c k = Blk.berr h.data.toList (datas l) c:=by simp [Blk.encE,hk]
  clear hk
  by_cases hz:Blk.berr h.data.toList (datas l) c = 0
  ·have HS:Hid (Blk.encS h.data.toList (datas l) c t k = [22,22] ++ Blk.body h.data.toList (datas l) c t k ++ [255]):=by simp [Hid,Blk.encS,hE,hz]
   obtain ⟨g1,g2,g3,g4⟩:=Blk.berr_ok hz
   have G1:=Blk.headOk_le g1
   rw [size_list] at G1
   rw [datas_length] at g2 g3
   have G4:=hide (getD_le (Blk.parts_le g4))
   obtain ⟨b,o,rfl,hcell⟩:∃ b o,a = some ⟨b,o,none⟩ ∧ ∀ i,i < l.length → w.cell? ⟨b,o + i,none⟩ = some (.string (l.getD i ByteArray.empty)):=by
    rcases ht with h | h
    ·subst h; simp at g2
    ·exact h
   have HC:=hide hcell
   clear hcell g1 g4 ht
   rw [HS.out,hE,hz]
   have HZ:=hide hz
   clear hE hz HS
   have HTX:=hide ht1
   have HLL:=hide hl
   clear ht1 hl
   go_enter Tryz.func46,Tryz.ntmps46
   go_wp2_with (first | (go_at_call 73; refine (checked_any k _).mono ?_; rintro e w1 ⟨rfl,rfl⟩; rw [hd.out]) | (go_at_call 74; refine (refused_any h _ l cap c t _ hh HLL.out hn HTX.out).mono ?_; rintro e w2 ⟨rfl,hb2⟩; rw [HZ.out]; have f0:=(HBK.out.below hb2 (by simp)).cell0; have f1:=(HBK.out.below hb2 (by simp)).cell1; have f2:=(HBK.out.below hb2 (by simp)).cell2; have f3:=(HBK.out.below hb2 (by simp)).cell3))
   refine (bodyOf_any h b o l cap c t k _ HK.out G1 G4.out (by omega) (by omega) ?_).mono ?_
   ·intro i hi
    exact cell_later (below_step HB0.out hb2) (HC.out i hi)
   rintro e w3 ⟨r,rfl,HR,hr,hb3⟩
   go_wp2
   go_ret2
   refine ⟨?_,below_step (below_step HB0.out hb2) hb3⟩
   show Ending.returned (Value.tuple #[.string (⟨#[22,22]⟩ ++ r ++ ⟨#[255]⟩),.int .i64 0]) = _
   rw [is_wrap HR.out]
   simp
  ·have HS:Hid (Blk.encS h.data.toList (datas l) c t k = []):=by simp [Hid,Blk.encS,hE,hz]
   rw [HS.out,hE]
   generalize hbz:Blk.berr h.data.toList (datas l) c = z at *
   have HZ:=hide hbz
   have hnz:(z != 0) = true:=by simp [hz]
   have HTX:=hide ht1
   have HLL:=hide hl
   clear ht1 hl ht hE hbz hz HS
   go_enter Tryz.func46,Tryz.ntmps46
   go_wp2_with (first | (go_at_call 73; refine (checked_any k _).mono ?_; rintro e w1 ⟨rfl,rfl⟩; rw [hd.out]) | (go_at_call 74; refine (refused_any h _ l cap c t _ hh HLL.out hn HTX.out).mono ?_; rintro e w2 ⟨rfl,hb2⟩; rw [HZ.out]))
   go_ret2
   exact ⟨rfl,below_step HB0.out hb2⟩
 ·have hd:Hid (decide (k = 0 ∨ k = 1) = false):=by simp [Hid,hk]
  have hE:Blk.encE h.data.toList (datas l) c k = 1:=by simp [Blk.encE,hk]
  have hS:Blk.encS h.data.toList (datas l) c t k = []:=by simp [Blk.encS,hE]
  rw [hS,hE]
  clear hk hE hS hl ht ht1
  go_enter Tryz.func46,Tryz.ntmps46
  go_wp2_with (first | (go_at_call 73; refine (checked_any k _).mono ?_; rintro e w1 ⟨rfl,rfl⟩; rw [hd.out]))
  go_ret2
  exact ⟨rfl,HB0.out⟩
theorem restOf_any (s:ByteArray) (w:World) (hs:s.size ≤ 140737488352000) :
  Calls Tryz.prog 77 #[.string s] w fun e w'=>∃ r,e = .returned (.string r) ∧ Hid (Is r (Prs.restL s.data.toList)) ∧ r.size ≤ s.size ∧ w' = w:=by
 go_enter Tryz.func77,Tryz.ntmps77
 go_wp2
 go_loop [3] (fun i=>∃ k:Nat,(k ≤ s.size ∨ k = 0) ∧ i = .int .i64 ((k:Int) + 1) ∧ Hid (Prs.restL s.data.toList = Prs.restL (s.data.toList.drop k))) (fun i=>s.size + 1 - (intOf i).toNat)
 case atStart=>exact ⟨0,by omega,rfl,rfl⟩
 case round =>
  obtain ⟨k,hk,rfl,HN⟩:=hrel
  by_cases hlt:k + 1 < s.size
  ·have hlt':(k:Int) + 1 < (s.size:Int):=by omega
   by_cases h1:s[k].toNat = 22
   ·by_cases h2:s[k + 1].toNat = 22
    ·have HT:=hide (HN.out.trans ((restB_hit s k hlt h1 h2).trans (dwB_step s k (by omega) h1)))
     have d1:((s[k].toNat:Int) == 22) = true:=by simp [h1]
     have d2:((s[k + 1].toNat:Int) == 22) = true:=by simp [h2]
     clear h1 h2
     go_wp2
     go_loop [4] (fun i=>∃ j:Nat,j ≤ s.size ∧ i = .int .i64 j ∧ Hid (Prs.restL s.data.toList = (s.data.toList.drop j).dropWhile Prs.syn)) (fun i=>s.size - (intOf i).toNat)
     case atStart=>exact ⟨k + 1,by omega,by go_num,HT⟩
     case round =>
      obtain ⟨j,hj,rfl,HJ⟩:=hrel
      by_cases hlj:j < s.size
      ·have hlj':(j:Int) < (s.size:Int):=by omega
       by_cases h3:s[j].toNat = 22
       ·have HS:=hide (dwB_step s j hlj h3)
        have d3:((s[j].toNat:Int) == 22) = true:=by simp [h3]
        clear h3
        go_wp2
        go_round
        case rel=>exact ⟨j + 1,by omega,by go_num,HJ.out.trans HS.out⟩
        case measure=>simp [intOf]; omega
       ·have HS:=hide (dwB_stop s j hlj h3)
        have d3:((s[j].toNat:Int) == 22) = false:=by simp; omega
        have HI:=hide (is_tail' s j)
        clear h3
        go_wp2
        go_ret
        exact ⟨_,rfl,by rw [Hid,HJ.out,HS.out]; exact HI,by simp,rfl⟩
      ·obtain rfl:j = s.size:=by omega
       have hlj':¬ (s.size:Int) < (s.size:Int):=by omega
       have HD:=hide (dwB_end s s.size (by omega))
       go_wp2
       go_ret
       exact ⟨_,rfl,by rw [Hid,HJ.out,HD.out]; rfl,by simp,rfl⟩
    ·have HT:=hide (restB_step s k hlt (fun h=>h2 h.2))
     have d1:((s[k].toNat:Int) == 22) = true:=by simp [h1]
     have d2:((s[k + 1].toNat:Int) == 22) = false:=by simp; omega
     clear h1 h2
     go_wp2
     go_round
     case rel=>exact ⟨k + 1,by omega,by go_num,HN.out.trans HT.out⟩
     case measure=>simp [intOf]; omega
   ·have HT:=hide (restB_step s k hlt (fun h=>h1 h.1))
    have d1:((s[k].toNat:Int) == 22) = false:=by simp; omega
    clear h1
    go_wp2
    go_round
    case rel=>exact ⟨k + 1,by omega,by go_num,HN.out.trans HT.out⟩
    case measure=>simp [intOf]; omega
  ·have hlt':¬ (k:Int) + 1 < (s.size:Int):=by omega
   have HE:=hide (restB_end s k (by omega))
   go_wp2
   go_ret
   exact ⟨_,rfl,by rw [Hid,HN.out,HE.out]; rfl,Nat.zero_le _,rfl⟩
def PartInv (c:Bool) (s:ByteArray) (o k:Nat) (done:List UInt8):Prop :=
 Prs.partR c (s.data.toList.drop o) = (Prs.partR c (s.data.toList.drop k)).map (fun q=>(done ++ q.1,(k - o) + q.2))
def isEnd (u:UInt8):Prop:=u.toNat = 31 ∨ u.toNat = 23 ∨ u.toNat = 3
theorem PartInv.start (c:Bool) (s:ByteArray) (o:Nat):PartInv c s o o []:=by
 unfold PartInv
 cases Prs.partR c (s.data.toList.drop o) <;> simp
theorem PartInv.txt {c:Bool} {s:ByteArray} {o k:Nat} {done:List UInt8} (h:PartInv c s o k done) (ho:o ≤ k) (hk:k < s.size) (h1:¬ (c = true ∧ s[k].toNat = 16)) (h2:¬ (c = false ∧ isEnd s[k])):PartInv c s o (k + 1) (done ++ [s[k]]):=by
 unfold PartInv at *
 rw [h,drop_one s k hk,Prs.partR_txt c s[k] _ h1 h2]
 cases Prs.partR c (s.data.toList.drop (k + 1)) with
 | none=>rfl
 | some q=>simp; omega
theorem PartInv.two {s:ByteArray} {o k:Nat} {done:List UInt8} (h:PartInv true s o k done) (ho:o ≤ k) (hk:k + 1 < s.size) (h1:s[k].toNat = 16) (h2:s[k + 1].toNat = 16):PartInv true s o (k + 1 + 1) (done ++ [s[k + 1]]):=by
 unfold PartInv at *
 rw [h,drop_one s k (by omega),drop_one s (k + 1) hk,Prs.partR_two _ _ _ h1 h2]
 cases Prs.partR true (s.data.toList.drop (k + 1 + 1)) with
 | none=>rfl
 | some q=>simp; omega
theorem PartInv.lone {s:ByteArray} {o k:Nat} {done:List UInt8} (h:PartInv true s o k done) (hk:k + 1 = s.size) (h1:s[k].toNat = 16):PartInv true s o (k + 1 + 1) done:=by
 unfold PartInv at *
 rw [h,drop_one s k (by omega),List.drop_of_length_le (by simp; omega),Prs.partR_lone _ h1,List.drop_of_length_le (by simp; omega)]
 rfl
theorem PartInv.fin {c:Bool} {s:ByteArray} {o k:Nat} {done:List UInt8} (h:PartInv c s o k done) (hk:s.size ≤ k):Prs.partR c (s.data.toList.drop o) = none:=by
 unfold PartInv at h
 rw [h,List.drop_of_length_le (by simpa using hk)]
 rfl
theorem PartInv.ctl {s:ByteArray} {o k:Nat} {done:List UInt8} (h:PartInv false s o k done) (hk:k < s.size) (h1:isEnd s[k]):Prs.partR false (s.data.toList.drop o) = some (done,k - o):=by
 unfold PartInv at h
 rw [h,drop_one s k hk,Prs.partR_end _ _ h1]
 simp
theorem PartInv.out {s:ByteArray} {o k:Nat} {done:List UInt8} (h:PartInv true s o k done) (hk:k + 1 < s.size) (h1:s[k].toNat = 16) (h2:¬ s[k + 1].toNat = 16):Prs.partR true (s.data.toList.drop o) = some (done,k - o + 1):=by
 unfold PartInv at h
 rw [h,drop_one s k (by omega),drop_one s (k + 1) hk,Prs.partR_out _ _ _ h1 h2]
 simp
/-- What the document's cut answers. -/
def PartAns (c:Bool) (s:ByteArray) (o:Nat) (r:ByteArray) (nx:Nat) (ok:Bool):Prop :=
 (ok = true → ∃ q,Prs.partR c (s.data.toList.drop o) = some q ∧ Is r q.1 ∧ nx = o + q.2) ∧ (ok = false → Prs.partR c (s.data.toList.drop o) = none)
theorem PartAns.yes {c:Bool} {s:ByteArray} {o n nx:Nat} {done:List UInt8} (h:Prs.partR c (s.data.toList.drop o) = some (done,n)) (hn:nx = o + n):PartAns c s o ⟨done.toArray⟩ nx true :=
 ⟨fun _=>⟨_,h,rfl,hn⟩,fun h=>by simp at h⟩
theorem PartAns.nope {c:Bool} {s:ByteArray} {o:Nat} (h:Prs.partR c (s.data.toList.drop o) = none) (r:ByteArray) (nx:Nat):PartAns c s o r nx false :=
 ⟨fun h=>by simp at h,fun _=>h⟩
def PartPost (c:Bool) (s:ByteArray) (o:Nat) (w:World) (e:Ending) (w':World):Prop :=
 ∃ (r:ByteArray) (nx:Nat) (ok:Bool),e = .returned (.tuple #[.string r,.int .i64 nx,.bool ok]) ∧ Hid (PartAns c s o r nx ok) ∧ r.size ≤ s.size ∧ (ok = true → nx < s.size) ∧ Below w.heap.size w w'
theorem ownB_nil (w:World) (B:Nat):OwnB w B (.slice none 0 0) []:=World.ownsRow_nil w B 5 1
theorem part_any (s:ByteArray) (o:Nat) (c:Bool) (w:World) (hs:s.size ≤ 140737488352000) (_ho:o ≤ 200000000000000) :
  Calls Tryz.prog 98 #[.string s,.int .i64 o,.bool c] w fun e w'=>PartPost c s o w e w':=by
 go_enter Tryz.func98,Tryz.ntmps98
 go_wp2
 go_loopw [9,10] (fun v i wr=>∃ (k:Nat) (done:List UInt8),i = .int .i64 k ∧ o ≤ k ∧ (k ≤ s.size + 1 ∨ k = o) ∧ done.length ≤ k ∧ done.length ≤ s.size ∧ OwnB wr w.heap.size v done ∧ Hid (PartInv c s o k done) ∧ Below w.heap.size w wr) (fun _ i _=>s.size - (intOf i).toNat)
 case atStart=>exact ⟨o,[],rfl,by omega,by omega,by simp,by simp,ownB_nil _ _,PartInv.start c s o,Below.refl _ _⟩
 case round =>
  obtain ⟨k,done,rfl,hok,hk,hdk,hds,hown,HI,hbel⟩:=hrel
  have hB:=hbel.size
  by_cases hlt:k < s.size
  ·have hlt':(k:Int) < (s.size:Int):=by omega
   cases c
   ·by_cases h31:s[k].toNat = 31
    ·have HT:=hide (HI.out.ctl hlt (Or.inl h31))
     have d1:((s[k].toNat:Int) == 31) = true:=by simp [h31]
     have cv:=conv_own _ _ _ _ hown
     clear h31
     go_wp2
     go_ret3
     exact ⟨_,k,true,rfl,PartAns.yes HT.out (by omega),hds,fun _=>hlt,hbel⟩
    ·have d1:((s[k].toNat:Int) == 31) = false:=by simp; omega
     by_cases h23:s[k].toNat = 23
     ·have HT:=hide (HI.out.ctl hlt (Or.inr (Or.inl h23)))
      have d2:((s[k].toNat:Int) == 23) = true:=by simp [h23]
      have cv:=conv_own _ _ _ _ hown
      clear h31 h23
      go_wp2
      go_ret3
      exact ⟨_,k,true,rfl,PartAns.yes HT.out (by omega),hds,fun _=>hlt,hbel⟩
     ·have d2:((s[k].toNat:Int) == 23) = false:=by simp; omega
      by_cases h3:s[k].toNat = 3
      ·have HT:=hide (HI.out.ctl hlt (Or.inr (Or.inr h3)))
       have d3:((s[k].toNat:Int) == 3) = true:=by simp [h3]
       have cv:=conv_own _ _ _ _ hown
       clear h31 h23 h3
       go_wp2
       go_ret3
       exact ⟨_,k,true,rfl,PartAns.yes HT.out (by omega),hds,fun _=>hlt,hbel⟩
      ·have d3:((s[k].toNat:Int) == 3) = false:=by simp; omega
       have HT:=hide (HI.out.txt hok hlt (by simp) (fun h=>by have:=h.2; unfold isEnd at this; omega))
       clear h31 h23 h3
       go_wp2_with (first | (at_builtin; refine app_one _ s[k] _ rfl rfl (.tmp 70) (.tmp 74) rfl w.heap.size _ _ _ 1 rfl rfl rfl hown (by omega) w hbel hB ?_; intro v1 W1 hown1 hbel1 hB1))
       go_roundw
       case rel=>exact ⟨k + 1,_,by go_num,by omega,by omega,by simp; omega,by simp; omega,by assumption,HT,by assumption⟩
       case measure=>simp [intOf]; omega
   ·by_cases h16:s[k].toNat = 16
    ·have hd:((s[k].toNat:Int) == 16) = true:=by simp [h16]
     by_cases hlt2:k + 1 < s.size
     ·have hlt2':(k:Int) + 1 < (s.size:Int):=by omega
      by_cases h17:s[k + 1].toNat = 16
      ·have HT:=hide (HI.out.two hok hlt2 h16 h17)
       have hd2:((s[k + 1].toNat:Int) != 16) = false:=by simp [h17]
       clear h16 h17
       go_wp2_with (first | (at_builtin; refine app_one _ s[k + 1] _ rfl rfl (.tmp 70) (.tmp 74) rfl w.heap.size _ _ _ 1 rfl rfl rfl hown (by omega) w hbel hB ?_; intro v1 W1 hown1 hbel1 hB1))
       go_roundw
       case rel=>exact ⟨k + 1 + 1,_,by go_num,by omega,by omega,by simp; omega,by simp; omega,by assumption,HT,by assumption⟩
       case measure=>simp [intOf]; omega
      ·have HT:=hide (HI.out.out hlt2 h16 h17)
       have hd2:((s[k + 1].toNat:Int) != 16) = true:=by simp; omega
       have cv:=conv_own _ _ _ _ hown
       clear h16 h17
       go_wp2
       go_ret3
       exact ⟨_,k + 1,true,by simp,PartAns.yes HT.out (by omega),hds,fun _=>hlt2,hbel⟩
     ·have hlt2':¬ (k:Int) + 1 < (s.size:Int):=by omega
      have HT:=hide (HI.out.lone (by omega) h16)
      clear h16
      go_wp2
      go_roundw
      case rel=>exact ⟨k + 1 + 1,done,by go_num,by omega,by omega,by omega,by omega,hown,HT,hbel⟩
      case measure=>simp [intOf]; omega
    ·have hd:((s[k].toNat:Int) == 16) = false:=by simp; omega
     have HT:=hide (HI.out.txt hok hlt (by simp [h16]) (by simp))
     clear h16
     go_wp2_with (first | (at_builtin; refine app_one _ s[k] _ rfl rfl (.tmp 70) (.tmp 74) rfl w.heap.size _ _ _ 1 rfl rfl rfl hown (by omega) w hbel hB ?_; intro v1 W1 hown1 hbel1 hB1))
     go_roundw
     case rel=>exact ⟨k + 1,_,by go_num,by omega,by omega,by simp; omega,by simp; omega,by assumption,HT,by assumption⟩
     case measure=>simp [intOf]; omega
  ·have hlt':¬ (k:Int) < (s.size:Int):=by omega
   have HT:=hide (HI.out.fin (by omega))
   go_wp2
   go_ret3
   exact ⟨_,0,false,rfl,PartAns.nope HT.out _ _,Nat.zero_le _,(fun h=>by simp at h),hbel⟩
end Go.Proofs.YtlbpjcphhocdkaaGreat
