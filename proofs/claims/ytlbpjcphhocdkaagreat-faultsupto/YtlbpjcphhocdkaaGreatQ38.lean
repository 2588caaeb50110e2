/- The document's line: a fault, where station 0 alone has something on the line. -/
import Derived.Test.YtlbpjcphhocdkaaGreatQ20
import Derived.Test.YtlbpjcphhocdkaaGreatQ11
set_option maxRecDepth 1000000
set_option maxHeartbeats 16000000
namespace Go.Proofs.YtlbpjcphhocdkaaGreat
open Go.RowKit Go.Proofs.YtlbpjcphhocdkaaGreat.Mod Go.Proofs.YtlbpjcphhocdkaaGreat.Pst
set_option linter.unusedVariables false
/-- What a fault leaves. -/
def FPost (ob i:Nat) (o:Option (List UInt8)) (w:World) (e:Ending) (w':World):Prop :=
 match o with
 | some l=>e = .returned (.int .i64 0) ∧ ∃ W,Below w.heap.size w W ∧ (w' = W.setCell ⟨ob,i,none⟩ (.string ⟨l.toArray⟩) ∨ w' = (W.setCell ⟨ob,i,none⟩ (.string ⟨l.toArray⟩)).drew)
 | none=>e = .returned (.int .i64 10) ∧ Below w.heap.size w w'
theorem fpost_no {ob i:Nat} {o:Option (List UInt8)} {w w':World} {e:Ending} (ho:o = none) (h:e = .returned (.int .i64 10) ∧ Below w.heap.size w w'):FPost ob i o w e w':=by subst ho; exact h
theorem fpost_yes {ob i:Nat} {o:Option (List UInt8)} {l:List UInt8} {w w':World} {e:Ending} (ho:o = some l) (h:e = .returned (.int .i64 0) ∧ ∃ W,Below w.heap.size w W ∧ (w' = W.setCell ⟨ob,i,none⟩ (.string ⟨l.toArray⟩) ∨ w' = (W.setCell ⟨ob,i,none⟩ (.string ⟨l.toArray⟩)).drew)):FPost ob i o w e w':=by subst ho; exact h
theorem rf0_else (yb ob:Nat) (s:ByteArray) (k p v:Int) (w:World) (o1:w.cell? ⟨yb,12,none⟩ = some (.slice (some ⟨ob,0,none⟩) 2 2)) (o2:w.cell? ⟨ob,0,none⟩ = some (.string s)) (o3:w.cell? ⟨ob,1,none⟩ = some (.string ⟨#[]⟩)) (o4:w.frozen? ⟨ob,0,none⟩ = false) (hs0:s.data.toList ≠ []) (hs:s.size ≤ 320) (hne:yb ≠ ob) (hk:k ≠ 0 ∧ k ≠ 1 ∧ k ≠ 2 ∧ k ≠ 3) :
  Calls Tryz.prog 38 #[.pointer (some ⟨yb,0,none⟩),.int .i64 k,.int .i64 p,.int .i64 v] w fun e w'=>FPost ob 0 (faultOf s.data.toList k p v) w e w':=by
 have hsz:s.data.toList.length = s.size:=by simp
 have HSZ:=hide hsz
 have e1:s.toList.isEmpty = false:=by rw [ByteArray.toList_eq]; cases hl:s.data.toList with | nil=>exact absurd hl hs0 | cons _ _=>rfl
 have e1':¬ s.toList = []:=by rw [ByteArray.toList_eq]; exact hs0
 have hne':=Ne.symm hne
 clear hs0
 have HF:Hid (faultOf s.data.toList k p v = none):=by unfold Hid faultOf; rw [if_neg hk.1,if_neg hk.2.1,if_neg hk.2.2.1,if_neg hk.2.2.2]
 have k0:(k == 0) = false:=by simp; omega
 have k1:(k == 1) = false:=by simp; omega
 have k2:(k == 2) = false:=by simp; omega
 have k3:(k == 3) = false:=by simp; omega
 clear hsz hk
 go_enter Tryz.func38,Tryz.ntmps38
 go_wp2
 go_ret
 exact fpost_no HF.out ⟨rfl,Below.refl _ _⟩
theorem rf0_cut1 (yb ob:Nat) (s:ByteArray) (k p v:Int) (w:World) (o1:w.cell? ⟨yb,12,none⟩ = some (.slice (some ⟨ob,0,none⟩) 2 2)) (o2:w.cell? ⟨ob,0,none⟩ = some (.string s)) (o3:w.cell? ⟨ob,1,none⟩ = some (.string ⟨#[]⟩)) (o4:w.frozen? ⟨ob,0,none⟩ = false) (hs0:s.data.toList ≠ []) (hs:s.size ≤ 320) (hne:yb ≠ ob) (hk:k = 1) (h1:¬ 0 ≤ p) :
  Calls Tryz.prog 38 #[.pointer (some ⟨yb,0,none⟩),.int .i64 k,.int .i64 p,.int .i64 v] w fun e w'=>FPost ob 0 (faultOf s.data.toList k p v) w e w':=by
 have hsz:s.data.toList.length = s.size:=by simp
 have HSZ:=hide hsz
 have e1:s.toList.isEmpty = false:=by rw [ByteArray.toList_eq]; cases hl:s.data.toList with | nil=>exact absurd hl hs0 | cons _ _=>rfl
 have e1':¬ s.toList = []:=by rw [ByteArray.toList_eq]; exact hs0
 have hne':=Ne.symm hne
 clear hs0
 have HF:Hid (faultOf s.data.toList k p v = none):=by unfold Hid faultOf; subst hk; rw [if_neg (by decide),if_pos rfl,if_neg (by omega)]
 subst hk
 clear hsz
 go_enter Tryz.func38,Tryz.ntmps38
 go_wp2
 go_ret
 exact fpost_no HF.out ⟨rfl,Below.refl _ _⟩
theorem rf0_cut2 (yb ob:Nat) (s:ByteArray) (k p v:Int) (w:World) (o1:w.cell? ⟨yb,12,none⟩ = some (.slice (some ⟨ob,0,none⟩) 2 2)) (o2:w.cell? ⟨ob,0,none⟩ = some (.string s)) (o3:w.cell? ⟨ob,1,none⟩ = some (.string ⟨#[]⟩)) (o4:w.frozen? ⟨ob,0,none⟩ = false) (hs0:s.data.toList ≠ []) (hs:s.size ≤ 320) (hne:yb ≠ ob) (hk:k = 1) (h1:0 ≤ p) (h2:¬ p ≤ (s.size:Int)) :
  Calls Tryz.prog 38 #[.pointer (some ⟨yb,0,none⟩),.int .i64 k,.int .i64 p,.int .i64 v] w fun e w'=>FPost ob 0 (faultOf s.data.toList k p v) w e w':=by
 have hsz:s.data.toList.length = s.size:=by simp
 have HSZ:=hide hsz
 have e1:s.toList.isEmpty = false:=by rw [ByteArray.toList_eq]; cases hl:s.data.toList with | nil=>exact absurd hl hs0 | cons _ _=>rfl
 have e1':¬ s.toList = []:=by rw [ByteArray.toList_eq]; exact hs0
 have hne':=Ne.symm hne
 clear hs0
 have HF:Hid (faultOf s.data.toList k p v = none):=by unfold Hid faultOf; subst hk; rw [if_neg (by decide),if_pos rfl,if_neg (by omega)]
 subst hk
 clear hsz
 go_enter Tryz.func38,Tryz.ntmps38
 go_wp2
 go_ret
 exact fpost_no HF.out ⟨rfl,Below.refl _ _⟩
theorem rf0_turn1 (yb ob:Nat) (s:ByteArray) (k p v:Int) (w:World) (o1:w.cell? ⟨yb,12,none⟩ = some (.slice (some ⟨ob,0,none⟩) 2 2)) (o2:w.cell? ⟨ob,0,none⟩ = some (.string s)) (o3:w.cell? ⟨ob,1,none⟩ = some (.string ⟨#[]⟩)) (o4:w.frozen? ⟨ob,0,none⟩ = false) (hs0:s.data.toList ≠ []) (hs:s.size ≤ 320) (hne:yb ≠ ob) (hk:k = 2) (h1:¬ 0 ≤ p) :
  Calls Tryz.prog 38 #[.pointer (some ⟨yb,0,none⟩),.int .i64 k,.int .i64 p,.int .i64 v] w fun e w'=>FPost ob 0 (faultOf s.data.toList k p v) w e w':=by
 have hsz:s.data.toList.length = s.size:=by simp
 have HSZ:=hide hsz
 have e1:s.toList.isEmpty = false:=by rw [ByteArray.toList_eq]; cases hl:s.data.toList with | nil=>exact absurd hl hs0 | cons _ _=>rfl
 have e1':¬ s.toList = []:=by rw [ByteArray.toList_eq]; exact hs0
 have hne':=Ne.symm hne
 clear hs0
 have HF:Hid (faultOf s.data.toList k p v = none):=by unfold Hid faultOf; subst hk; rw [if_neg (by decide),if_neg (by decide),if_pos rfl,if_neg (by omega)]
 subst hk
 clear hsz
 go_enter Tryz.func38,Tryz.ntmps38
 go_wp2
 go_ret
 exact fpost_no HF.out ⟨rfl,Below.refl _ _⟩
theorem rf0_turn2 (yb ob:Nat) (s:ByteArray) (k p v:Int) (w:World) (o1:w.cell? ⟨yb,12,none⟩ = some (.slice (some ⟨ob,0,none⟩) 2 2)) (o2:w.cell? ⟨ob,0,none⟩ = some (.string s)) (o3:w.cell? ⟨ob,1,none⟩ = some (.string ⟨#[]⟩)) (o4:w.frozen? ⟨ob,0,none⟩ = false) (hs0:s.data.toList ≠ []) (hs:s.size ≤ 320) (hne:yb ≠ ob) (hk:k = 2) (h1:0 ≤ p) (h2:¬ p < (s.size:Int)) :
  Calls Tryz.prog 38 #[.pointer (some ⟨yb,0,none⟩),.int .i64 k,.int .i64 p,.int .i64 v] w fun e w'=>FPost ob 0 (faultOf s.data.toList k p v) w e w':=by
 have hsz:s.data.toList.length = s.size:=by simp
 have HSZ:=hide hsz
 have e1:s.toList.isEmpty = false:=by rw [ByteArray.toList_eq]; cases hl:s.data.toList with | nil=>exact absurd hl hs0 | cons _ _=>rfl
 have e1':¬ s.toList = []:=by rw [ByteArray.toList_eq]; exact hs0
 have hne':=Ne.symm hne
 clear hs0
 have HF:Hid (faultOf s.data.toList k p v = none):=by unfold Hid faultOf; subst hk; rw [if_neg (by decide),if_neg (by decide),if_pos rfl,if_neg (by omega)]
 subst hk
 clear hsz
 go_enter Tryz.func38,Tryz.ntmps38
 go_wp2
 go_ret
 exact fpost_no HF.out ⟨rfl,Below.refl _ _⟩
theorem rf0_turn3 (yb ob:Nat) (s:ByteArray) (k p v:Int) (w:World) (o1:w.cell? ⟨yb,12,none⟩ = some (.slice (some ⟨ob,0,none⟩) 2 2)) (o2:w.cell? ⟨ob,0,none⟩ = some (.string s)) (o3:w.cell? ⟨ob,1,none⟩ = some (.string ⟨#[]⟩)) (o4:w.frozen? ⟨ob,0,none⟩ = false) (hs0:s.data.toList ≠ []) (hs:s.size ≤ 320) (hne:yb ≠ ob) (hk:k = 2) (h1:0 ≤ p) (h2:p < (s.size:Int)) (h3:¬ 0 < v) :
  Calls Tryz.prog 38 #[.pointer (some ⟨yb,0,none⟩),.int .i64 k,.int .i64 p,.int .i64 v] w fun e w'=>FPost ob 0 (faultOf s.data.toList k p v) w e w':=by
 have hsz:s.data.toList.length = s.size:=by simp
 have HSZ:=hide hsz
 have e1:s.toList.isEmpty = false:=by rw [ByteArray.toList_eq]; cases hl:s.data.toList with | nil=>exact absurd hl hs0 | cons _ _=>rfl
 have e1':¬ s.toList = []:=by rw [ByteArray.toList_eq]; exact hs0
 have hne':=Ne.symm hne
 clear hs0
 have HF:Hid (faultOf s.data.toList k p v = none):=by unfold Hid faultOf; subst hk; rw [if_neg (by decide),if_neg (by decide),if_pos rfl,if_neg (by omega)]
 subst hk
 clear hsz
 go_enter Tryz.func38,Tryz.ntmps38
 go_wp2
 go_ret
 exact fpost_no HF.out ⟨rfl,Below.refl _ _⟩
theorem rf0_turn4 (yb ob:Nat) (s:ByteArray) (k p v:Int) (w:World) (o1:w.cell? ⟨yb,12,none⟩ = some (.slice (some ⟨ob,0,none⟩) 2 2)) (o2:w.cell? ⟨ob,0,none⟩ = some (.string s)) (o3:w.cell? ⟨ob,1,none⟩ = some (.string ⟨#[]⟩)) (o4:w.frozen? ⟨ob,0,none⟩ = false) (hs0:s.data.toList ≠ []) (hs:s.size ≤ 320) (hne:yb ≠ ob) (hk:k = 2) (h1:0 ≤ p) (h2:p < (s.size:Int)) (h3:0 < v) (h4:¬ v < 256) :
  Calls Tryz.prog 38 #[.pointer (some ⟨yb,0,none⟩),.int .i64 k,.int .i64 p,.int .i64 v] w fun e w'=>FPost ob 0 (faultOf s.data.toList k p v) w e w':=by
 have hsz:s.data.toList.length = s.size:=by simp
 have HSZ:=hide hsz
 have e1:s.toList.isEmpty = false:=by rw [ByteArray.toList_eq]; cases hl:s.data.toList with | nil=>exact absurd hl hs0 | cons _ _=>rfl
 have e1':¬ s.toList = []:=by rw [ByteArray.toList_eq]; exact hs0
 have hne':=Ne.symm hne
 clear hs0
 have HF:Hid (faultOf s.data.toList k p v = none):=by unfold Hid faultOf; subst hk; rw [if_neg (by decide),if_neg (by decide),if_pos rfl,if_neg (by omega)]
 subst hk
 clear hsz
 go_enter Tryz.func38,Tryz.ntmps38
 go_wp2
 go_ret
 exact fpost_no HF.out ⟨rfl,Below.refl _ _⟩
theorem rf0_noise1 (yb ob:Nat) (s:ByteArray) (k p v:Int) (w:World) (o1:w.cell? ⟨yb,12,none⟩ = some (.slice (some ⟨ob,0,none⟩) 2 2)) (o2:w.cell? ⟨ob,0,none⟩ = some (.string s)) (o3:w.cell? ⟨ob,1,none⟩ = some (.string ⟨#[]⟩)) (o4:w.frozen? ⟨ob,0,none⟩ = false) (hs0:s.data.toList ≠ []) (hs:s.size ≤ 320) (hne:yb ≠ ob) (hk:k = 3) (h1:¬ 0 ≤ p) :
  Calls Tryz.prog 38 #[.pointer (some ⟨yb,0,none⟩),.int .i64 k,.int .i64 p,.int .i64 v] w fun e w'=>FPost ob 0 (faultOf s.data.toList k p v) w e w':=by
 have hsz:s.data.toList.length = s.size:=by simp
 have HSZ:=hide hsz
 have e1:s.toList.isEmpty = false:=by rw [ByteArray.toList_eq]; cases hl:s.data.toList with | nil=>exact absurd hl hs0 | cons _ _=>rfl
 have e1':¬ s.toList = []:=by rw [ByteArray.toList_eq]; exact hs0
 have hne':=Ne.symm hne
 clear hs0
 have HF:Hid (faultOf s.data.toList k p v = none):=by unfold Hid faultOf; subst hk; rw [if_neg (by decide),if_neg (by decide),if_neg (by decide),if_pos rfl,if_neg (by omega)]
 subst hk
 clear hsz
 go_enter Tryz.func38,Tryz.ntmps38
 go_wp2
 go_ret
 exact fpost_no HF.out ⟨rfl,Below.refl _ _⟩
theorem rf0_noise2 (yb ob:Nat) (s:ByteArray) (k p v:Int) (w:World) (o1:w.cell? ⟨yb,12,none⟩ = some (.slice (some ⟨ob,0,none⟩) 2 2)) (o2:w.cell? ⟨ob,0,none⟩ = some (.string s)) (o3:w.cell? ⟨ob,1,none⟩ = some (.string ⟨#[]⟩)) (o4:w.frozen? ⟨ob,0,none⟩ = false) (hs0:s.data.toList ≠ []) (hs:s.size ≤ 320) (hne:yb ≠ ob) (hk:k = 3) (h1:0 ≤ p) (h2:¬ p ≤ (s.size:Int)) :
  Calls Tryz.prog 38 #[.pointer (some ⟨yb,0,none⟩),.int .i64 k,.int .i64 p,.int .i64 v] w fun e w'=>FPost ob 0 (faultOf s.data.toList k p v) w e w':=by
 have hsz:s.data.toList.length = s.size:=by simp
 have HSZ:=hide hsz
 have e1:s.toList.isEmpty = false:=by rw [ByteArray.toList_eq]; cases hl:s.data.toList with | nil=>exact absurd hl hs0 | cons _ _=>rfl
 have e1':¬ s.toList = []:=by rw [ByteArray.toList_eq]; exact hs0
 have hne':=Ne.symm hne
 clear hs0
 have HF:Hid (faultOf s.data.toList k p v = none):=by unfold Hid faultOf; subst hk; rw [if_neg (by decide),if_neg (by decide),if_neg (by decide),if_pos rfl,if_neg (by omega)]
 subst hk
 clear hsz
 go_enter Tryz.func38,Tryz.ntmps38
 go_wp2
 go_ret
 exact fpost_no HF.out ⟨rfl,Below.refl _ _⟩
theorem rf0_noise3 (yb ob:Nat) (s:ByteArray) (k p v:Int) (w:World) (o1:w.cell? ⟨yb,12,none⟩ = some (.slice (some ⟨ob,0,none⟩) 2 2)) (o2:w.cell? ⟨ob,0,none⟩ = some (.string s)) (o3:w.cell? ⟨ob,1,none⟩ = some (.string ⟨#[]⟩)) (o4:w.frozen? ⟨ob,0,none⟩ = false) (hs0:s.data.toList ≠ []) (hs:s.size ≤ 320) (hne:yb ≠ ob) (hk:k = 3) (h1:0 ≤ p) (h2:p ≤ (s.size:Int)) (h3:¬ 0 ≤ v) :
  Calls Tryz.prog 38 #[.pointer (some ⟨yb,0,none⟩),.int .i64 k,.int .i64 p,.int .i64 v] w fun e w'=>FPost ob 0 (faultOf s.data.toList k p v) w e w':=by
 have hsz:s.data.toList.length = s.size:=by simp
 have HSZ:=hide hsz
 have e1:s.toList.isEmpty = false:=by rw [ByteArray.toList_eq]; cases hl:s.data.toList with | nil=>exact absurd hl hs0 | cons _ _=>rfl
 have e1':¬ s.toList = []:=by rw [ByteArray.toList_eq]; exact hs0
 have hne':=Ne.symm hne
 clear hs0
 have HF:Hid (faultOf s.data.toList k p v = none):=by unfold Hid faultOf; subst hk; rw [if_neg (by decide),if_neg (by decide),if_neg (by decide),if_pos rfl,if_neg (by omega)]
 subst hk
 clear hsz
 go_enter Tryz.func38,Tryz.ntmps38
 go_wp2
 go_ret
 exact fpost_no HF.out ⟨rfl,Below.refl _ _⟩
theorem rf0_noise4 (yb ob:Nat) (s:ByteArray) (k p v:Int) (w:World) (o1:w.cell? ⟨yb,12,none⟩ = some (.slice (some ⟨ob,0,none⟩) 2 2)) (o2:w.cell? ⟨ob,0,none⟩ = some (.string s)) (o3:w.cell? ⟨ob,1,none⟩ = some (.string ⟨#[]⟩)) (o4:w.frozen? ⟨ob,0,none⟩ = false) (hs0:s.data.toList ≠ []) (hs:s.size ≤ 320) (hne:yb ≠ ob) (hk:k = 3) (h1:0 ≤ p) (h2:p ≤ (s.size:Int)) (h3:0 ≤ v) (h4:¬ v < 256) :
  Calls Tryz.prog 38 #[.pointer (some ⟨yb,0,none⟩),.int .i64 k,.int .i64 p,.int .i64 v] w fun e w'=>FPost ob 0 (faultOf s.data.toList k p v) w e w':=by
 have hsz:s.data.toList.length = s.size:=by simp
 have HSZ:=hide hsz
 have e1:s.toList.isEmpty = false:=by rw [ByteArray.toList_eq]; cases hl:s.data.toList with | nil=>exact absurd hl hs0 | cons _ _=>rfl
 have e1':¬ s.toList = []:=by rw [ByteArray.toList_eq]; exact hs0
 have hne':=Ne.symm hne
 clear hs0
 have HF:Hid (faultOf s.data.toList k p v = none):=by unfold Hid faultOf; subst hk; rw [if_neg (by decide),if_neg (by decide),if_neg (by decide),if_pos rfl,if_neg (by omega)]
 subst hk
 clear hsz
 go_enter Tryz.func38,Tryz.ntmps38
 go_wp2
 go_ret
 exact fpost_no HF.out ⟨rfl,Below.refl _ _⟩
theorem rf0_noise5 (yb ob:Nat) (s:ByteArray) (k p v:Int) (w:World) (o1:w.cell? ⟨yb,12,none⟩ = some (.slice (some ⟨ob,0,none⟩) 2 2)) (o2:w.cell? ⟨ob,0,none⟩ = some (.string s)) (o3:w.cell? ⟨ob,1,none⟩ = some (.string ⟨#[]⟩)) (o4:w.frozen? ⟨ob,0,none⟩ = false) (hs0:s.data.toList ≠ []) (hs:s.size ≤ 320) (hne:yb ≠ ob) (hk:k = 3) (h1:0 ≤ p) (h2:p ≤ (s.size:Int)) (h3:0 ≤ v) (h4:v < 256) (h5:¬ (s.size:Int) < 320) :
  Calls Tryz.prog 38 #[.pointer (some ⟨yb,0,none⟩),.int .i64 k,.int .i64 p,.int .i64 v] w fun e w'=>FPost ob 0 (faultOf s.data.toList k p v) w e w':=by
 have hsz:s.data.toList.length = s.size:=by simp
 have HSZ:=hide hsz
 have e1:s.toList.isEmpty = false:=by rw [ByteArray.toList_eq]; cases hl:s.data.toList with | nil=>exact absurd hl hs0 | cons _ _=>rfl
 have e1':¬ s.toList = []:=by rw [ByteArray.toList_eq]; exact hs0
 have hne':=Ne.symm hne
 clear hs0
 have HF:Hid (faultOf s.data.toList k p v = none):=by unfold Hid faultOf; subst hk; rw [if_neg (by decide),if_neg (by decide),if_neg (by decide),if_pos rfl,if_neg (by omega)]
 subst hk
 clear hsz
 go_enter Tryz.func38,Tryz.ntmps38
 go_wp2
 go_ret
 exact fpost_no HF.out ⟨rfl,Below.refl _ _⟩
theorem rf0_lose (yb ob:Nat) (s:ByteArray) (k p v:Int) (w:World) (o1:w.cell? ⟨yb,12,none⟩ = some (.slice (some ⟨ob,0,none⟩) 2 2)) (o2:w.cell? ⟨ob,0,none⟩ = some (.string s)) (o3:w.cell? ⟨ob,1,none⟩ = some (.string ⟨#[]⟩)) (o4:w.frozen? ⟨ob,0,none⟩ = false) (hs0:s.data.toList ≠ []) (hs:s.size ≤ 320) (hne:yb ≠ ob) (hk:k = 0) :
  Calls Tryz.prog 38 #[.pointer (some ⟨yb,0,none⟩),.int .i64 k,.int .i64 p,.int .i64 v] w fun e w'=>FPost ob 0 (faultOf s.data.toList k p v) w e w':=by
 have hsz:s.data.toList.length = s.size:=by simp
 have HSZ:=hide hsz
 have e1:s.toList.isEmpty = false:=by rw [ByteArray.toList_eq]; cases hl:s.data.toList with | nil=>exact absurd hl hs0 | cons _ _=>rfl
 have e1':¬ s.toList = []:=by rw [ByteArray.toList_eq]; exact hs0
 have hne':=Ne.symm hne
 clear hs0
 have HF:Hid (faultOf s.data.toList k p v = some []):=by unfold Hid faultOf; rw [if_pos hk]
 subst hk
 clear hsz
 go_enter Tryz.func38,Tryz.ntmps38
 go_wp2
 go_ret
 exact fpost_yes HF.out ⟨rfl,w,Below.refl _ _,Or.inl rfl⟩
theorem rf0_cut (yb ob:Nat) (s:ByteArray) (k p v:Int) (w:World) (o1:w.cell? ⟨yb,12,none⟩ = some (.slice (some ⟨ob,0,none⟩) 2 2)) (o2:w.cell? ⟨ob,0,none⟩ = some (.string s)) (o3:w.cell? ⟨ob,1,none⟩ = some (.string ⟨#[]⟩)) (o4:w.frozen? ⟨ob,0,none⟩ = false) (hs0:s.data.toList ≠ []) (hs:s.size ≤ 320) (hne:yb ≠ ob) (P:Nat) (hk:k = 1) (hp:p = (P:Int)) (h2:P ≤ s.size) :
  Calls Tryz.prog 38 #[.pointer (some ⟨yb,0,none⟩),.int .i64 k,.int .i64 p,.int .i64 v] w fun e w'=>FPost ob 0 (faultOf s.data.toList k p v) w e w':=by
 have hsz:s.data.toList.length = s.size:=by simp
 have HSZ:=hide hsz
 have e1:s.toList.isEmpty = false:=by rw [ByteArray.toList_eq]; cases hl:s.data.toList with | nil=>exact absurd hl hs0 | cons _ _=>rfl
 have e1':¬ s.toList = []:=by rw [ByteArray.toList_eq]; exact hs0
 have hne':=Ne.symm hne
 clear hs0
 have HF:Hid (faultOf s.data.toList k p v = some (s.data.toList.take P)):=by unfold Hid faultOf; subst hk hp; rw [if_neg (by decide),if_pos rfl,if_pos (by omega)]; simp
 subst hk hp
 have HI:Hid (s.extract 0 P = ⟨(s.data.toList.take P).toArray⟩):=by have h:=is_cut s 0 P; rw [List.drop_zero,Nat.sub_zero] at h; exact h
 have g1:(0:Int) ≤ (P:Int):=by omega
 have g2:(P:Int) ≤ (s.size:Int):=by omega
 clear hsz
 go_enter Tryz.func38,Tryz.ntmps38
 go_wp2_with fail
 go_region
 rw [HI.out]
 go_wp2
 go_ret
 exact fpost_yes HF.out ⟨rfl,w,Below.refl _ _,Or.inr rfl⟩
end Go.Proofs.YtlbpjcphhocdkaaGreat
