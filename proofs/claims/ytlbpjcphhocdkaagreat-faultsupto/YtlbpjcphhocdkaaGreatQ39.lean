/- The document's line: a byte comes in, where station 0 alone has something on the line. The document's line: a fault, where station 1 alone has something on the line. -/
import Derived.Test.YtlbpjcphhocdkaaGreatQ38
import Derived.Test.YtlbpjcphhocdkaaGreatQ11
set_option maxRecDepth 1000000
set_option maxHeartbeats 16000000
namespace Go.Proofs.YtlbpjcphhocdkaaGreat
open Go.RowKit Go.Proofs.YtlbpjcphhocdkaaGreat.Mod Go.Proofs.YtlbpjcphhocdkaaGreat.Pst
set_option linter.unusedVariables false
theorem rf0_noise (yb ob:Nat) (s:ByteArray) (k p v:Int) (w:World) (o1:w.cell? ⟨yb,12,none⟩ = some (.slice (some ⟨ob,0,none⟩) 2 2)) (o2:w.cell? ⟨ob,0,none⟩ = some (.string s)) (o3:w.cell? ⟨ob,1,none⟩ = some (.string ⟨#[]⟩)) (o4:w.frozen? ⟨ob,0,none⟩ = false) (hs0:s.data.toList ≠ []) (hs:s.size ≤ 320) (hne:yb ≠ ob) (n:Nat) (hk:k = 3) (hp:p = (n:Int)) (hn:n ≤ s.size) (hv:0 ≤ v ∧ v ≤ 255) (hl:s.size < 320) :
  Calls Tryz.prog 38 #[.pointer (some ⟨yb,0,none⟩),.int .i64 k,.int .i64 p,.int .i64 v] w fun e w'=>FPost ob 0 (faultOf s.data.toList k p v) w e w':=by
 subst hk hp
 have hsz:s.data.toList.length = s.size:=by simp
 have e1:s.toList.isEmpty = false:=by rw [ByteArray.toList_eq]; cases hl:s.data.toList with | nil=>exact absurd hl hs0 | cons _ _=>rfl
 have e1':¬ s.toList = []:=by rw [ByteArray.toList_eq]; exact hs0
 have hne':=Ne.symm hne
 have ly:=World.block_lt_of_cell? w _ o1
 have lo:=World.block_lt_of_cell? w _ o2
 simp only at ly lo
 have HF:Hid (faultOf s.data.toList 3 (n:Int) v = some (s.data.toList.take n ++ [UInt8.ofNat v.toNat] ++ s.data.toList.drop n)):=by
  unfold Hid faultOf
  rw [if_neg (by decide),if_neg (by decide),if_neg (by decide),if_pos rfl,if_pos (by omega)]
  simp
 have hbv:((UInt8.ofNat v.toNat).toNat:Int) = v:=by
  rw [UInt8.toNat_ofNat',Nat.mod_eq_of_lt (by omega:v.toNat < 2 ^ 8)]
  omega
 have cvA:=conv_cells (w.alloc (.cells #[.int .u8 v] 5)) w.heap.size 1 [UInt8.ofNat v.toNat] (fun j hj=>by
  obtain rfl:j = 0:=by simp at hj; omega
  simp; omega)
 have cvB:=conv_cells (w.alloc (.cells #[.int .u8 v] 5)).drew w.heap.size 1 [UInt8.ofNat v.toNat] (fun j hj=>by
  obtain rfl:j = 0:=by simp at hj; omega
  simp; omega)
 simp only [List.length_cons,List.length_nil,Nat.zero_add] at cvA cvB
 have HI1:Hid (Is (s.extract 0 n) (s.data.toList.take n)):=by have h:=is_cut s 0 n; rw [List.drop_zero,Nat.sub_zero] at h; exact h
 have HI2:=hide (is_tail' s n)
 have HIB:Hid (Is (⟨[UInt8.ofNat v.toNat].toArray⟩:ByteArray) [UInt8.ofNat v.toNat]):=rfl
 have hx1:(s.extract 0 n).size ≤ 1000:=by rw [HI1.out.size]; simp; omega
 have hx2:(s.extract n s.size).size ≤ 1000:=by rw [HI2.out.size]; simp; omega
 have hxb:(⟨[UInt8.ofNat v.toNat].toArray⟩:ByteArray).size ≤ 1:=Nat.le_refl 1
 generalize (⟨[UInt8.ofNat v.toNat].toArray⟩:ByteArray) = bb at *
 have q1:(w.alloc (.cells #[.int .u8 v] 5)).cell? ⟨yb,12,none⟩ = some (.slice (some ⟨ob,0,none⟩) 2 2):=(Below.cell (p:=⟨yb,12,none⟩) ((Below.refl _ w).alloc (Nat.le_refl _) _) ly).trans o1
 have q2:(w.alloc (.cells #[.int .u8 v] 5)).cell? ⟨ob,0,none⟩ = some (.string s):=(Below.cell (p:=⟨ob,0,none⟩) ((Below.refl _ w).alloc (Nat.le_refl _) _) lo).trans o2
 have q4:(w.alloc (.cells #[.int .u8 v] 5)).frozen? ⟨ob,0,none⟩ = false:=(Below.frozen (p:=⟨ob,0,none⟩) ((Below.refl _ w).alloc (Nat.le_refl _) _) lo).trans o4
 have HJ:Hid ((s.extract 0 n) ++ bb ++ (s.extract n s.size) = ⟨(s.data.toList.take n ++ [UInt8.ofNat v.toNat] ++ s.data.toList.drop n).toArray⟩):=(HI1.out.append HIB.out).append HI2.out
 have v1:(0:Int) ≤ v:=by omega
 have v2:v < 256:=by omega
 have n1:(0:Int) ≤ (n:Int):=by omega
 have n2:(n:Int) ≤ (s.size:Int):=by omega
 have l3:(s.size:Int) < 320:=by omega
 have hVm:v % 256 = v:=by omega
 clear hv hs0 hsz hbv
 go_enter Tryz.func38,Tryz.ntmps38
 go_wp2_with fail
 go_region
 rw [HJ.out]
 go_wp2
 go_ret
 exact fpost_yes HF.out ⟨rfl,w.alloc (.cells #[.int .u8 v] 5),(Below.refl _ _).alloc (Nat.le_refl _) _,Or.inr (by rw [World.setCell_alloc_past _ _ _ _ lo])⟩
set_option linter.unusedVariables false
theorem rf1_else (yb ob:Nat) (s:ByteArray) (k p v:Int) (w:World) (o1:w.cell? ⟨yb,12,none⟩ = some (.slice (some ⟨ob,0,none⟩) 2 2)) (o2:w.cell? ⟨ob,1,none⟩ = some (.string s)) (o3:w.cell? ⟨ob,0,none⟩ = some (.string ⟨#[]⟩)) (o4:w.frozen? ⟨ob,1,none⟩ = false) (hs0:s.data.toList ≠ []) (hs:s.size ≤ 320) (hne:yb ≠ ob) (hk:k ≠ 0 ∧ k ≠ 1 ∧ k ≠ 2 ∧ k ≠ 3) :
  Calls Tryz.prog 38 #[.pointer (some ⟨yb,0,none⟩),.int .i64 k,.int .i64 p,.int .i64 v] w fun e w'=>FPost ob 1 (faultOf s.data.toList k p v) w e w':=by
 have hsz:s.data.toList.length = s.size:=by simp
 have HSZ:=hide hsz
 have e1:s.toList.isEmpty = false:=by rw [ByteArray.toList_eq]; cases hl:s.data.toList with | nil=>exact absurd hl hs0 | cons _ _=>rfl
 have e1':¬ s.toList = []:=by rw [ByteArray.toList_eq]; exact hs0
 have hne':=Ne.symm hne
 clear hs0
 have HF:Hid (faultOf s.data.toList k p v = none):=by unfold Hid faultOf; rw [if_neg hk.1,if_neg hk.2.1,if_neg hk.2.2.1,if_neg hk.2.2.2]
 have k0:(k == 0) = false:=by simp; omega
 have k1:(k == 1) = false:=by simp; omega
 have k2:(k == 2) = false:=by simp; omega
 have k3:(k == 3) = false:=by simp; omega
 clear hsz hk
 go_enter Tryz.func38,Tryz.ntmps38
 go_wp2
 go_ret
 exact fpost_no HF.out ⟨rfl,Below.refl _ _⟩
theorem rf1_cut1 (yb ob:Nat) (s:ByteArray) (k p v:Int) (w:World) (o1:w.cell? ⟨yb,12,none⟩ = some (.slice (some ⟨ob,0,none⟩) 2 2)) (o2:w.cell? ⟨ob,1,none⟩ = some (.string s)) (o3:w.cell? ⟨ob,0,none⟩ = some (.string ⟨#[]⟩)) (o4:w.frozen? ⟨ob,1,none⟩ = false) (hs0:s.data.toList ≠ []) (hs:s.size ≤ 320) (hne:yb ≠ ob) (hk:k = 1) (h1:¬ 0 ≤ p) :
  Calls Tryz.prog 38 #[.pointer (some ⟨yb,0,none⟩),.int .i64 k,.int .i64 p,.int .i64 v] w fun e w'=>FPost ob 1 (faultOf s.data.toList k p v) w e w':=by
 have hsz:s.data.toList.length = s.size:=by simp
 have HSZ:=hide hsz
 have e1:s.toList.isEmpty = false:=by rw [ByteArray.toList_eq]; cases hl:s.data.toList with | nil=>exact absurd hl hs0 | cons _ _=>rfl
 have e1':¬ s.toList = []:=by rw [ByteArray.toList_eq]; exact hs0
 have hne':=Ne.symm hne
 clear hs0
 have HF:Hid (faultOf s.data.toList k p v = none):=by unfold Hid faultOf; subst hk; rw [if_neg (by decide),if_pos rfl,if_neg (by omega)]
 subst hk
 clear hsz
 go_enter Tryz.func38,Tryz.ntmps38
 go_wp2
 go_ret
 exact fpost_no HF.out ⟨rfl,Below.refl _ _⟩
theorem rf1_cut2 (yb ob:Nat) (s:ByteArray) (k p v:Int) (w:World) (o1:w.cell? ⟨yb,12,none⟩ = some (.slice (some ⟨ob,0,none⟩) 2 2)) (o2:w.cell? ⟨ob,1,none⟩ = some (.string s)) (o3:w.cell? ⟨ob,0,none⟩ = some (.string ⟨#[]⟩)) (o4:w.frozen? ⟨ob,1,none⟩ = false) (hs0:s.data.toList ≠ []) (hs:s.size ≤ 320) (hne:yb ≠ ob) (hk:k = 1) (h1:0 ≤ p) (h2:¬ p ≤ (s.size:Int)) :
  Calls Tryz.prog 38 #[.pointer (some ⟨yb,0,none⟩),.int .i64 k,.int .i64 p,.int .i64 v] w fun e w'=>FPost ob 1 (faultOf s.data.toList k p v) w e w':=by
 have hsz:s.data.toList.length = s.size:=by simp
 have HSZ:=hide hsz
 have e1:s.toList.isEmpty = false:=by rw [ByteArray.toList_eq]; cases hl:s.data.toList with | nil=>exact absurd hl hs0 | cons _ _=>rfl
 have e1':¬ s.toList = []:=by rw [ByteArray.toList_eq]; exact hs0
 have hne':=Ne.symm hne
 clear hs0
 have HF:Hid (faultOf s.data.toList k p v = none):=by unfold Hid faultOf; subst hk; rw [if_neg (by decide),if_pos rfl,if_neg (by omega)]
 subst hk
 clear hsz
 go_enter Tryz.func38,Tryz.ntmps38
 go_wp2
 go_ret
 exact fpost_no HF.out ⟨rfl,Below.refl _ _⟩
theorem rf1_turn1 (yb ob:Nat) (s:ByteArray) (k p v:Int) (w:World) (o1:w.cell? ⟨yb,12,none⟩ = some (.slice (some ⟨ob,0,none⟩) 2 2)) (o2:w.cell? ⟨ob,1,none⟩ = some (.string s)) (o3:w.cell? ⟨ob,0,none⟩ = some (.string ⟨#[]⟩)) (o4:w.frozen? ⟨ob,1,none⟩ = false) (hs0:s.data.toList ≠ []) (hs:s.size ≤ 320) (hne:yb ≠ ob) (hk:k = 2) (h1:¬ 0 ≤ p) :
  Calls Tryz.prog 38 #[.pointer (some ⟨yb,0,none⟩),.int .i64 k,.int .i64 p,.int .i64 v] w fun e w'=>FPost ob 1 (faultOf s.data.toList k p v) w e w':=by
 have hsz:s.data.toList.length = s.size:=by simp
 have HSZ:=hide hsz
 have e1:s.toList.isEmpty = false:=by rw [ByteArray.toList_eq]; cases hl:s.data.toList with | nil=>exact absurd hl hs0 | cons _ _=>rfl
 have e1':¬ s.toList = []:=by rw [ByteArray.toList_eq]; exact hs0
 have hne':=Ne.symm hne
 clear hs0
 have HF:Hid (faultOf s.data.toList k p v = none):=by unfold Hid faultOf; subst hk; rw [if_neg (by decide),if_neg (by decide),if_pos rfl,if_neg (by omega)]
 subst hk
 clear hsz
 go_enter Tryz.func38,Tryz.ntmps38
 go_wp2
 go_ret
 exact fpost_no HF.out ⟨rfl,Below.refl _ _⟩
theorem rf1_turn2 (yb ob:Nat) (s:ByteArray) (k p v:Int) (w:World) (o1:w.cell? ⟨yb,12,none⟩ = some (.slice (some ⟨ob,0,none⟩) 2 2)) (o2:w.cell? ⟨ob,1,none⟩ = some (.string s)) (o3:w.cell? ⟨ob,0,none⟩ = some (.string ⟨#[]⟩)) (o4:w.frozen? ⟨ob,1,none⟩ = false) (hs0:s.data.toList ≠ []) (hs:s.size ≤ 320) (hne:yb ≠ ob) (hk:k = 2) (h1:0 ≤ p) (h2:¬ p < (s.size:Int)) :
  Calls Tryz.prog 38 #[.pointer (some ⟨yb,0,none⟩),.int .i64 k,.int .i64 p,.int .i64 v] w fun e w'=>FPost ob 1 (faultOf s.data.toList k p v) w e w':=by
 have hsz:s.data.toList.length = s.size:=by simp
 have HSZ:=hide hsz
 have e1:s.toList.isEmpty = false:=by rw [ByteArray.toList_eq]; cases hl:s.data.toList with | nil=>exact absurd hl hs0 | cons _ _=>rfl
 have e1':¬ s.toList = []:=by rw [ByteArray.toList_eq]; exact hs0
 have hne':=Ne.symm hne
 clear hs0
 have HF:Hid (faultOf s.data.toList k p v = none):=by unfold Hid faultOf; subst hk; rw [if_neg (by decide),if_neg (by decide),if_pos rfl,if_neg (by omega)]
 subst hk
 clear hsz
 go_enter Tryz.func38,Tryz.ntmps38
 go_wp2
 go_ret
 exact fpost_no HF.out ⟨rfl,Below.refl _ _⟩
theorem rf1_turn3 (yb ob:Nat) (s:ByteArray) (k p v:Int) (w:World) (o1:w.cell? ⟨yb,12,none⟩ = some (.slice (some ⟨ob,0,none⟩) 2 2)) (o2:w.cell? ⟨ob,1,none⟩ = some (.string s)) (o3:w.cell? ⟨ob,0,none⟩ = some (.string ⟨#[]⟩)) (o4:w.frozen? ⟨ob,1,none⟩ = false) (hs0:s.data.toList ≠ []) (hs:s.size ≤ 320) (hne:yb ≠ ob) (hk:k = 2) (h1:0 ≤ p) (h2:p < (s.size:Int)) (h3:¬ 0 < v) :
  Calls Tryz.prog 38 #[.pointer (some ⟨yb,0,none⟩),.int .i64 k,.int .i64 p,.int .i64 v] w fun e w'=>FPost ob 1 (faultOf s.data.toList k p v) w e w':=by
 have hsz:s.data.toList.length = s.size:=by simp
 have HSZ:=hide hsz
 have e1:s.toList.isEmpty = false:=by rw [ByteArray.toList_eq]; cases hl:s.data.toList with | nil=>exact absurd hl hs0 | cons _ _=>rfl
 have e1':¬ s.toList = []:=by rw [ByteArray.toList_eq]; exact hs0
 have hne':=Ne.symm hne
 clear hs0
 have HF:Hid (faultOf s.data.toList k p v = none):=by unfold Hid faultOf; subst hk; rw [if_neg (by decide),if_neg (by decide),if_pos rfl,if_neg (by omega)]
 subst hk
 clear hsz
 go_enter Tryz.func38,Tryz.ntmps38
 go_wp2
 go_ret
 exact fpost_no HF.out ⟨rfl,Below.refl _ _⟩
theorem rf1_turn4 (yb ob:Nat) (s:ByteArray) (k p v:Int) (w:World) (o1:w.cell? ⟨yb,12,none⟩ = some (.slice (some ⟨ob,0,none⟩) 2 2)) (o2:w.cell? ⟨ob,1,none⟩ = some (.string s)) (o3:w.cell? ⟨ob,0,none⟩ = some (.string ⟨#[]⟩)) (o4:w.frozen? ⟨ob,1,none⟩ = false) (hs0:s.data.toList ≠ []) (hs:s.size ≤ 320) (hne:yb ≠ ob) (hk:k = 2) (h1:0 ≤ p) (h2:p < (s.size:Int)) (h3:0 < v) (h4:¬ v < 256) :
  Calls Tryz.prog 38 #[.pointer (some ⟨yb,0,none⟩),.int .i64 k,.int .i64 p,.int .i64 v] w fun e w'=>FPost ob 1 (faultOf s.data.toList k p v) w e w':=by
 have hsz:s.data.toList.length = s.size:=by simp
 have HSZ:=hide hsz
 have e1:s.toList.isEmpty = false:=by rw [ByteArray.toList_eq]; cases hl:s.data.toList with | nil=>exact absurd hl hs0 | cons _ _=>rfl
 have e1':¬ s.toList = []:=by rw [ByteArray.toList_eq]; exact hs0
 have hne':=Ne.symm hne
 clear hs0
 have HF:Hid (faultOf s.data.toList k p v = none):=by unfold Hid faultOf; subst hk; rw [if_neg (by decide),if_neg (by decide),if_pos rfl,if_neg (by omega)]
 subst hk
 clear hsz
 go_enter Tryz.func38,Tryz.ntmps38
 go_wp2
 go_ret
 exact fpost_no HF.out ⟨rfl,Below.refl _ _⟩
theorem rf1_noise1 (yb ob:Nat) (s:ByteArray) (k p v:Int) (w:World) (o1:w.cell? ⟨yb,12,none⟩ = some (.slice (some ⟨ob,0,none⟩) 2 2)) (o2:w.cell? ⟨ob,1,none⟩ = some (.string s)) (o3:w.cell? ⟨ob,0,none⟩ = some (.string ⟨#[]⟩)) (o4:w.frozen? ⟨ob,1,none⟩ = false) (hs0:s.data.toList ≠ []) (hs:s.size ≤ 320) (hne:yb ≠ ob) (hk:k = 3) (h1:¬ 0 ≤ p) :
  Calls Tryz.prog 38 #[.pointer (some ⟨yb,0,none⟩),.int .i64 k,.int .i64 p,.int .i64 v] w fun e w'=>FPost ob 1 (faultOf s.data.toList k p v) w e w':=by
 have hsz:s.data.toList.length = s.size:=by simp
 have HSZ:=hide hsz
 have e1:s.toList.isEmpty = false:=by rw [ByteArray.toList_eq]; cases hl:s.data.toList with | nil=>exact absurd hl hs0 | cons _ _=>rfl
 have e1':¬ s.toList = []:=by rw [ByteArray.toList_eq]; exact hs0
 have hne':=Ne.symm hne
 clear hs0
 have HF:Hid (faultOf s.data.toList k p v = none):=by unfold Hid faultOf; subst hk; rw [if_neg (by decide),if_neg (by decide),if_neg (by decide),if_pos rfl,if_neg (by omega)]
 subst hk
 clear hsz
 go_enter Tryz.func38,Tryz.ntmps38
 go_wp2
 go_ret
 exact fpost_no HF.out ⟨rfl,Below.refl _ _⟩
theorem rf1_noise2 (yb ob:Nat) (s:ByteArray) (k p v:Int) (w:World) (o1:w.cell? ⟨yb,12,none⟩ = some (.slice (some ⟨ob,0,none⟩) 2 2)) (o2:w.cell? ⟨ob,1,none⟩ = some (.string s)) (o3:w.cell? ⟨ob,0,none⟩ = some (.string ⟨#[]⟩)) (o4:w.frozen? ⟨ob,1,none⟩ = false) (hs0:s.data.toList ≠ []) (hs:s.size ≤ 320) (hne:yb ≠ ob) (hk:k = 3) (h1:0 ≤ p) (h2:¬ p ≤ (s.size:Int)) :
  Calls Tryz.prog 38 #[.pointer (some ⟨yb,0,none⟩),.int .i64 k,.int .i64 p,.int .i64 v] w fun e w'=>FPost ob 1 (faultOf s.data.toList k p v) w e w':=by
 have hsz:s.data.toList.length = s.size:=by simp
 have HSZ:=hide hsz
 have e1:s.toList.isEmpty = false:=by rw [ByteArray.toList_eq]; cases hl:s.data.toList with | nil=>exact absurd hl hs0 | cons _ _=>rfl
 have e1':¬ s.toList = []:=by rw [ByteArray.toList_eq]; exact hs0
 have hne':=Ne.symm hne
 clear hs0
 have HF:Hid (faultOf s.data.toList k p v = none):=by unfold Hid faultOf; subst hk; rw [if_neg (by decide),if_neg (by decide),if_neg (by decide),if_pos rfl,if_neg (by omega)]
 subst hk
 clear hsz
 go_enter Tryz.func38,Tryz.ntmps38
 go_wp2
 go_ret
 exact fpost_no HF.out ⟨rfl,Below.refl _ _⟩
theorem rf1_noise3 (yb ob:Nat) (s:ByteArray) (k p v:Int) (w:World) (o1:w.cell? ⟨yb,12,none⟩ = some (.slice (some ⟨ob,0,none⟩) 2 2)) (o2:w.cell? ⟨ob,1,none⟩ = some (.string s)) (o3:w.cell? ⟨ob,0,none⟩ = some (.string ⟨#[]⟩)) (o4:w.frozen? ⟨ob,1,none⟩ = false) (hs0:s.data.toList ≠ []) (hs:s.size ≤ 320) (hne:yb ≠ ob) (hk:k = 3) (h1:0 ≤ p) (h2:p ≤ (s.size:Int)) (h3:¬ 0 ≤ v) :
  Calls Tryz.prog 38 #[.pointer (some ⟨yb,0,none⟩),.int .i64 k,.int .i64 p,.int .i64 v] w fun e w'=>FPost ob 1 (faultOf s.data.toList k p v) w e w':=by
 have hsz:s.data.toList.length = s.size:=by simp
 have HSZ:=hide hsz
 have e1:s.toList.isEmpty = false:=by rw [ByteArray.toList_eq]; cases hl:s.data.toList with | nil=>exact absurd hl hs0 | cons _ _=>rfl
 have e1':¬ s.toList = []:=by rw [ByteArray.toList_eq]; exact hs0
 have hne':=Ne.symm hne
 clear hs0
 have HF:Hid (faultOf s.data.toList k p v = none):=by unfold Hid faultOf; subst hk; rw [if_neg (by decide),if_neg (by decide),if_neg (by decide),if_pos rfl,if_neg (by omega)]
 subst hk
 clear hsz
 go_enter Tryz.func38,Tryz.ntmps38
 go_wp2
 go_ret
 exact fpost_no HF.out ⟨rfl,Below.refl _ _⟩
theorem rf1_noise4 (yb ob:Nat) (s:ByteArray) (k p v:Int) (w:World) (o1:w.cell? ⟨yb,12,none⟩ = some (.slice (some ⟨ob,0,none⟩) 2 2)) (o2:w.cell? ⟨ob,1,none⟩ = some (.string s)) (o3:w.cell? ⟨ob,0,none⟩ = some (.string ⟨#[]⟩)) (o4:w.frozen? ⟨ob,1,none⟩ = false) (hs0:s.data.toList ≠ []) (hs:s.size ≤ 320) (hne:yb ≠ ob) (hk:k = 3) (h1:0 ≤ p) (h2:p ≤ (s.size:Int)) (h3:0 ≤ v) (h4:¬ v < 256) :
  Calls Tryz.prog 38 #[.pointer (some ⟨yb,0,none⟩),.int .i64 k,.int .i64 p,.int .i64 v] w fun e w'=>FPost ob 1 (faultOf s.data.toList k p v) w e w':=by
 have hsz:s.data.toList.length = s.size:=by simp
 have HSZ:=hide hsz
 have e1:s.toList.isEmpty = false:=by rw [ByteArray.toList_eq]; cases hl:s.data.toList with | nil=>exact absurd hl hs0 | cons _ _=>rfl
 have e1':¬ s.toList = []:=by rw [ByteArray.toList_eq]; exact hs0
 have hne':=Ne.symm hne
 clear hs0
 have HF:Hid (faultOf s.data.toList k p v = none):=by unfold Hid faultOf; subst hk; rw [if_neg (by decide),if_neg (by decide),if_neg (by decide),if_pos rfl,if_neg (by omega)]
 subst hk
 clear hsz
 go_enter Tryz.func38,Tryz.ntmps38
 go_wp2
 go_ret
 exact fpost_no HF.out ⟨rfl,Below.refl _ _⟩
theorem rf1_noise5 (yb ob:Nat) (s:ByteArray) (k p v:Int) (w:World) (o1:w.cell? ⟨yb,12,none⟩ = some (.slice (some ⟨ob,0,none⟩) 2 2)) (o2:w.cell? ⟨ob,1,none⟩ = some (.string s)) (o3:w.cell? ⟨ob,0,none⟩ = some (.string ⟨#[]⟩)) (o4:w.frozen? ⟨ob,1,none⟩ = false) (hs0:s.data.toList ≠ []) (hs:s.size ≤ 320) (hne:yb ≠ ob) (hk:k = 3) (h1:0 ≤ p) (h2:p ≤ (s.size:Int)) (h3:0 ≤ v) (h4:v < 256) (h5:¬ (s.size:Int) < 320) :
  Calls Tryz.prog 38 #[.pointer (some ⟨yb,0,none⟩),.int .i64 k,.int .i64 p,.int .i64 v] w fun e w'=>FPost ob 1 (faultOf s.data.toList k p v) w e w':=by
 have hsz:s.data.toList.length = s.size:=by simp
 have HSZ:=hide hsz
 have e1:s.toList.isEmpty = false:=by rw [ByteArray.toList_eq]; cases hl:s.data.toList with | nil=>exact absurd hl hs0 | cons _ _=>rfl
 have e1':¬ s.toList = []:=by rw [ByteArray.toList_eq]; exact hs0
 have hne':=Ne.symm hne
 clear hs0
 have HF:Hid (faultOf s.data.toList k p v = none):=by unfold Hid faultOf; subst hk; rw [if_neg (by decide),if_neg (by decide),if_neg (by decide),if_pos rfl,if_neg (by omega)]
 subst hk
 clear hsz
 go_enter Tryz.func38,Tryz.ntmps38
 go_wp2
 go_ret
 exact fpost_no HF.out ⟨rfl,Below.refl _ _⟩
theorem rf1_lose (yb ob:Nat) (s:ByteArray) (k p v:Int) (w:World) (o1:w.cell? ⟨yb,12,none⟩ = some (.slice (some ⟨ob,0,none⟩) 2 2)) (o2:w.cell? ⟨ob,1,none⟩ = some (.string s)) (o3:w.cell? ⟨ob,0,none⟩ = some (.string ⟨#[]⟩)) (o4:w.frozen? ⟨ob,1,none⟩ = false) (hs0:s.data.toList ≠ []) (hs:s.size ≤ 320) (hne:yb ≠ ob) (hk:k = 0) :
  Calls Tryz.prog 38 #[.pointer (some ⟨yb,0,none⟩),.int .i64 k,.int .i64 p,.int .i64 v] w fun e w'=>FPost ob 1 (faultOf s.data.toList k p v) w e w':=by
 have hsz:s.data.toList.length = s.size:=by simp
 have HSZ:=hide hsz
 have e1:s.toList.isEmpty = false:=by rw [ByteArray.toList_eq]; cases hl:s.data.toList with | nil=>exact absurd hl hs0 | cons _ _=>rfl
 have e1':¬ s.toList = []:=by rw [ByteArray.toList_eq]; exact hs0
 have hne':=Ne.symm hne
 clear hs0
 have HF:Hid (faultOf s.data.toList k p v = some []):=by unfold Hid faultOf; rw [if_pos hk]
 subst hk
 clear hsz
 go_enter Tryz.func38,Tryz.ntmps38
 go_wp2
 go_ret
 exact fpost_yes HF.out ⟨rfl,w,Below.refl _ _,Or.inl rfl⟩
theorem rf1_cut (yb ob:Nat) (s:ByteArray) (k p v:Int) (w:World) (o1:w.cell? ⟨yb,12,none⟩ = some (.slice (some ⟨ob,0,none⟩) 2 2)) (o2:w.cell? ⟨ob,1,none⟩ = some (.string s)) (o3:w.cell? ⟨ob,0,none⟩ = some (.string ⟨#[]⟩)) (o4:w.frozen? ⟨ob,1,none⟩ = false) (hs0:s.data.toList ≠ []) (hs:s.size ≤ 320) (hne:yb ≠ ob) (P:Nat) (hk:k = 1) (hp:p = (P:Int)) (h2:P ≤ s.size) :
  Calls Tryz.prog 38 #[.pointer (some ⟨yb,0,none⟩),.int .i64 k,.int .i64 p,.int .i64 v] w fun e w'=>FPost ob 1 (faultOf s.data.toList k p v) w e w':=by
 have hsz:s.data.toList.length = s.size:=by simp
 have HSZ:=hide hsz
 have e1:s.toList.isEmpty = false:=by rw [ByteArray.toList_eq]; cases hl:s.data.toList with | nil=>exact absurd hl hs0 | cons _ _=>rfl
 have e1':¬ s.toList = []:=by rw [ByteArray.toList_eq]; exact hs0
 have hne':=Ne.symm hne
 clear hs0
 have HF:Hid (faultOf s.data.toList k p v = some (s.data.toList.take P)):=by unfold Hid faultOf; subst hk hp; rw [if_neg (by decide),if_pos rfl,if_pos (by omega)]; simp
 subst hk hp
 have HI:Hid (s.extract 0 P = ⟨(s.data.toList.take P).toArray⟩):=by have h:=is_cut s 0 P; rw [List.drop_zero,Nat.sub_zero] at h; exact h
 have g1:(0:Int) ≤ (P:Int):=by omega
 have g2:(P:Int) ≤ (s.size:Int):=by omega
 clear hsz
 go_enter Tryz.func38,Tryz.ntmps38
 go_wp2_with fail
 go_region
 rw [HI.out]
 go_wp2
 go_ret
 exact fpost_yes HF.out ⟨rfl,w,Below.refl _ _,Or.inr rfl⟩
end Go.Proofs.YtlbpjcphhocdkaaGreat
