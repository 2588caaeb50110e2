/- Laws of my own on byte slices that a call makes: a literal, append of a string, append of a byte, the conversion to a string. Plain facts on the two checks, of no program: the register that is shifted a byte at a time .. -/
import Derived.Test.YtlbpjcphhocdkaaGreatRows
import Derived.WalkKit
import Derived.WalkSpells
import Derived.WalkLawsBesides
import Derived.Lib.AppendStr
import Derived.Laws.BytesArg
import Derived.Lib.SmallJoins
import Derived.Deep.QuietTactic
import Derived.BigQuiet
import Derived.WalkSmall
import Derived.Lib.ConvBytes
import Derived.Lib.FrozenHead
import Derived.Deep.RegionHeld3
set_option maxRecDepth 1000000
set_option maxHeartbeats 16000000
namespace Go.Proofs.YtlbpjcphhocdkaaGreat
open Go.RowKit
/-- A slot of a frame. -/
def gd (a:Act) (i:Nat):Value:=a.tmps.getD i undef
theorem hide {p:Prop} (h:p):Hid p:=h
/-- One call behind another: each makes new memory alone. -/
theorem below_step {w a b:World} (h:Below w.heap.size w a) (k:Below a.heap.size a b):Below w.heap.size w b:=h.trans (k.mono h.size)
def bcells (l:List UInt8):List Value:=l.map fun b=>Value.int .u8 b.toNat
theorem bcells_length (l:List UInt8):(bcells l).length = l.length:=by simp [bcells]
theorem bcells_append (l r:List UInt8):bcells (l ++ r) = bcells l ++ bcells r:=by simp [bcells]
theorem strCells_eq (s:ByteArray):Go.Lib.strCells s = bcells s.data.toList:=rfl
/-- The slice value v,among the blocks from B on,holds just the bytes l. -/
def OwnB (w:World) (B:Nat) (v:Value) (l:List UInt8):Prop:=w.ownsRow B 5 1 v l.length (bcells l)
theorem Tryz.infoStr:(Tryz.prog.info? 9).map (fun i=>(i.zero,i.size,i.bytes)) = some (some (.string ⟨#[]⟩),1,16):=by kernel_rfl
theorem Tryz.sizeStr:(Tryz.prog.info? 9).map (·.size) = some 1:=by kernel_rfl
theorem Tryz.infoU8:(Tryz.prog.info? 5).map (fun i=>(i.zero,i.size,i.bytes)) = some (some (.int .u8 0),1,1):=by kernel_rfl
theorem OwnB.alloc {w:World} {B:Nat} {v:Value} {l:List UInt8} (h:OwnB w B v l) (o:Obj):OwnB (w.alloc o) B v l:=World.ownsRow.alloc h o
theorem OwnB.below {w w':World} {B:Nat} {v:Value} {l:List UInt8} (h:OwnB w B v l) (hb:Below w.heap.size w w') (_:B ≤ w.heap.size):OwnB w' B v l:=by
 obtain ⟨h1,h2⟩:=h
 refine ⟨h1,?_⟩
 rcases h2 with h2 | ⟨g,cap,cur,hv,hB,hh,r⟩
 ·exact Or.inl h2
 ·refine Or.inr ⟨g,cap,cur,hv,hB,?_,r⟩
  rw [hb.block g (lt_of_block hh)]
  exact hh
/-- A literal. -/
theorem ownB_lit (w:World) (B:Nat) (cs:Array Value) (l:List UInt8) (hc:cs.toList = bcells l) (hB:B ≤ w.heap.size) (hl:l.length ≤ 1000) :
  OwnB (w.alloc (.cells cs 5)) B (.slice (some ⟨w.heap.size,0,none⟩) l.length l.length) l:=by
 have hsz:cs.size = l.length * 1:=by rw [← Array.length_toList,hc,bcells_length,Nat.mul_one]
 have h:=World.ownsRow_lit (base:=B) (e:=5) (size:=1) w cs l.length hB (by unfold maxLen; omega) hsz
 unfold OwnB
 rw [← hc]
 exact h
section
variable {ops:Array Oper} {rest:List Oper} {o:Oper} {a:Act} {Q:Exit → Act → World → Prop}
theorem app_str (W:World) (hgd:o.guard = none) (sl x:Operand)
  (ho:o.op = .call { callee:=.builtin .append,args:=#[sl,x],argTypes:=#[111,9] })
  (B:Nat) (v:Value) (l:List UInt8) (s:ByteArray) (hs:a.eval sl = v) (hx:a.eval x = .string s) (hown:OwnB W B v l)
  (hlen:l.length + s.size ≤ 140737488355328) (w0:World) (hbel:Below B w0 W) (hB:B ≤ W.heap.size)
  (h:∀ v' W',OwnB W' B v' (l ++ s.data.toList) → Below B w0 W' → B ≤ W'.heap.size → wpList Tryz.prog ops Q rest (a.put o.dst v') W') :
  wpList Tryz.prog ops Q (o::rest) a W:=by
 obtain ⟨i0,hi,hz0,hz1,hz2⟩:=info_parts Tryz.infoU8
 refine Go.Lib.wpList_append_own_string W hgd sl x 111 9 ho B 5 i0 Tryz.underlying111 Tryz.underlying9 hi hz0 hz1 hz2 v l.length (bcells l) hs hown s hx (by unfold maxLen; omega) hlen hB ?_
 intro v' W' ho' hg _
 refine h v' W' ?_ (hbel.grown hg hB (fun k hk=>(World.ownsRow.lt hown k hk).1)) (by have:=hg.size; omega)
 unfold OwnB
 rw [bcells_append,List.length_append,← strCells_eq]
 have e:s.data.toList.length = s.size:=by simp
 rw [e]
 exact ho'
theorem app_one (W:World) (c:UInt8) (n:Int) (hn:n = (c.toNat:Int)) (hgd:o.guard = none) (sl x:Operand)
  (ho:o.op = .call { callee:=.builtin .append,args:=#[sl,x],argTypes:=#[111,111] })
  (B:Nat) (v:Value) (l:List UInt8) (g cp:Nat) (hs:a.eval sl = v) (hx:a.eval x = .slice (some ⟨g,0,none⟩) 1 cp) (hg0:g = W.heap.size) (hown:OwnB W B v l)
  (hlen:l.length + 1 ≤ 140737488355328) (w0:World) (hbel:Below B w0 W) (hB:B ≤ W.heap.size)
  (h:∀ v' W',OwnB W' B v' (l ++ [c]) → Below B w0 W' → B ≤ W'.heap.size → wpList Tryz.prog ops Q rest (a.put o.dst v') W') :
  wpList Tryz.prog ops Q (o::rest) a (W.alloc (.cells #[.int .u8 n] 5)):=by
 obtain ⟨i0,hi,hz0,hz1,hz2⟩:=info_parts Tryz.infoU8
 subst hn hg0
 refine wpList_append_own _ hgd sl x 111 ho B 5 i0 (.int .u8 0) 1 1 Tryz.underlying111 hi hz0 hz1 hz2 rfl (by decide) v l.length (bcells l) hs (hown.alloc _) ⟨W.heap.size,0,none⟩ 1 cp [.int .u8 c.toNat] hx rfl
  (cell_one_new _ _ _) (by intro u hu; simp at hu; subst hu; rfl) (by unfold maxLen; omega) (by omega) (by simp; omega) ?_
 intro v' W' ho' hg _
 have hlt:∀ k,v.ownBlock = some k → B ≤ k:=fun k hk=>(World.ownsRow.lt hown k hk).1
 refine h v' W' ?_ ((hbel.alloc hB _).grown hg (by simp; omega) hlt) (by have:=hg.size; simp at this; omega)
 unfold OwnB
 rw [bcells_append,List.length_append]
 exact ho'
end
/-- 'string(b)' of such a slice. -/
theorem conv_own (W:World) (B:Nat) (v:Value) (l:List UInt8) (h:OwnB W B v l) :
  (convert 111 9 v).run Tryz.prog W = .ok (.string ⟨l.toArray⟩) W:=by
 rcases h.2 with ⟨rfl,h0⟩ | ⟨g,cap,cur,rfl,hb,hh,r⟩
 ·have:l = []:=List.eq_nil_of_length_eq_zero h0
  subst this
  have:=run_convert_bytes_nil (P:=Tryz.prog) W 111 5 Tryz.underlying111 Tryz.underlying5 0 0 9 Tryz.underlying9
  rw [this]; rfl
 ·refine run_convert_bytes_back W 111 9 5 ⟨g,0,none⟩ cap l Tryz.underlying111 Tryz.underlying5 Tryz.underlying9 ?_
  intro j hj
  have:=World.ownsRow.cellAt h j (by simpa using hj)
  have e:(⟨g,0,none⟩:Addr).add j = ⟨g,j,none⟩:=by simp [Addr.add_lit]
  rw [e,this]
  simp [bcells,List.getElem?_eq_getElem hj]
/-- 'string([]byte{..})' of a literal. -/
theorem conv_lit1 (w:World) (c:Int) (g:Nat) (hg:g = w.heap.size) :
  (convert 111 9 (.slice (some ⟨g,0,none⟩) 1 1)).run Tryz.prog (w.alloc (.cells #[.int .u8 c] 5)) = .ok (.string (strOfNums [c])) (w.alloc (.cells #[.int .u8 c] 5)):=by
 subst hg
 refine run_convert_bytes_arg _ 111 5 Tryz.underlying111 Tryz.underlying5 w.heap.size 0 1 1 [c] rfl ?_ 9 Tryz.underlying9
 intro i hi
 obtain rfl:i = 0:=by omega
 simp
theorem conv_lit2 (w:World) (c d:Int) (g:Nat) (hg:g = w.heap.size) :
  (convert 111 9 (.slice (some ⟨g,0,none⟩) 2 2)).run Tryz.prog (w.alloc (.cells #[.int .u8 c,.int .u8 d] 5)) = .ok (.string (strOfNums [c,d])) (w.alloc (.cells #[.int .u8 c,.int .u8 d] 5)):=by
 subst hg
 refine run_convert_bytes_arg _ 111 5 Tryz.underlying111 Tryz.underlying5 w.heap.size 0 2 2 [c,d] rfl ?_ 9 Tryz.underlying9
 intro i hi
 match i,hi with
 | 0,_=>simp
 | 1,_=>simp
end Go.Proofs.YtlbpjcphhocdkaaGreat
namespace Go.Proofs.YtlbpjcphhocdkaaGreat.Crc
def sh (r:Nat):Nat:=if r % 2 = 1 then (r / 2) ^^^ 40961 else r / 2
def shN:Nat → Nat → Nat
 | 0,r=>r
 | n + 1,r=>sh (shN n r)
theorem sh_lt {r:Nat} (h:r < 65536):sh r < 65536:=by
 unfold sh
 split
 ·exact Nat.xor_lt_two_pow (n:=16) (by omega) (by omega)
 ·omega
theorem shN_lt (n:Nat) {r:Nat} (h:r < 65536):shN n r < 65536:=by
 induction n with
 | zero=>exact h
 | succ n ih=>exact sh_lt ih
def crc (l:List UInt8):Nat:=l.foldl (fun r c=>shN 8 (r ^^^ c.toNat)) 0
def xorB (l:List UInt8):Nat:=l.foldl (fun r c=>r ^^^ c.toNat) 0
theorem byte_lt (c:UInt8):c.toNat < 256:=c.toNat_lt
theorem crc_snoc (l:List UInt8) (c:UInt8):crc (l ++ [c]) = shN 8 (crc l ^^^ c.toNat):=by simp [crc,List.foldl_append]
theorem xorB_snoc (l:List UInt8) (c:UInt8):xorB (l ++ [c]) = xorB l ^^^ c.toNat:=by simp [xorB,List.foldl_append]
theorem crc_step_lt {r c:Nat} (h:r < 65536) (hc:c < 256):r ^^^ c < 65536:=Nat.xor_lt_two_pow (n:=16) (by omega) (by omega)
theorem foldl_crc_lt (l:List UInt8):∀ r,r < 65536 → l.foldl (fun r c=>shN 8 (r ^^^ c.toNat)) r < 65536:=by
 induction l with
 | nil=>intro r h; exact h
 | cons c l ih=>intro r h; exact ih _ (shN_lt 8 (crc_step_lt h (byte_lt c)))
theorem crc_lt (l:List UInt8):crc l < 65536:=foldl_crc_lt l 0 (by decide)
theorem foldl_xor_lt (l:List UInt8):∀ r,r < 256 → l.foldl (fun r c=>r ^^^ c.toNat) r < 256:=by
 induction l with
 | nil=>intro r h; exact h
 | cons c l ih=>intro r h; exact ih _ (Nat.xor_lt_two_pow (n:=8) (by omega) (byte_lt c))
theorem xorB_lt (l:List UInt8):xorB l < 256:=foldl_xor_lt l 0 (by decide)
/-- The bit at place j of the bytes l,lowest first; none behind the end. -/
def bitAt (l:List UInt8) (j:Nat):Bool:=(l.getD (j / 8) 0).toNat.testBit (j % 8)
/-- The register of the long division,bit by bit. -/
def regN (B:Nat → Bool):Nat → Nat
 | 0=>0
 | i + 1=>(regN B i / 2) ^^^ (if (B i ^^ (regN B i).testBit 0) then 40961 else 0)
theorem sh_eq (r:Nat):sh r = (r / 2) ^^^ (if r.testBit 0 then 40961 else 0):=by
 unfold sh
 by_cases h:r % 2 = 1 <;> simp [Nat.testBit_zero,h]
theorem xor_half (a b:Nat):(a ^^^ b) / 2 = (a / 2) ^^^ (b / 2):=by
 apply Nat.eq_of_testBit_eq
 intro i
 simp [← Nat.testBit_add_one,Nat.testBit_xor]
theorem half_pow (c k:Nat):c / 2 ^ k / 2 = c / 2 ^ (k + 1):=by rw [Nat.div_div_eq_div_mul,Nat.pow_succ]
theorem xor_cancel (a b:Nat):(a ^^^ b) ^^^ b = a:=by rw [Nat.xor_assoc,Nat.xor_self,Nat.xor_zero]
/-- Inside a byte. -/
theorem regN_in (B:Nat → Bool) (m r c:Nat) (hr:regN B m = r) (hb:∀ k,k < 8 → B (m + k) = c.testBit k) :
  ∀ k,k ≤ 8 → regN B (m + k) = shN k (r ^^^ c) ^^^ (c / 2 ^ k):=by
 intro k
 induction k with
 | zero=>intro _; simp [shN,hr,xor_cancel]
 | succ k ih =>
  intro hk
  have h:=ih (by omega)
  have e:m + (k + 1) = (m + k) + 1:=by omega
  rw [e,regN,h,hb k (by omega),shN,sh_eq]
  generalize shN k (r ^^^ c) = S
  have t:(c.testBit k ^^ (S ^^^ c / 2 ^ k).testBit 0) = S.testBit 0:=by
   rw [Nat.testBit_xor,Nat.testBit_div_two_pow,Nat.zero_add]
   generalize S.testBit 0 = x
   generalize c.testBit k = y
   cases x <;> cases y <;> rfl
  rw [t,xor_half,half_pow]
  rw [Nat.xor_assoc,Nat.xor_comm (c / 2 ^ (k + 1)),← Nat.xor_assoc]
theorem bitAt_in (l:List UInt8) (m k:Nat) (hk:k < 8):bitAt l (8 * m + k) = (l.getD m 0).toNat.testBit k:=by
 unfold bitAt
 have e1:(8 * m + k) / 8 = m:=by omega
 have e2:(8 * m + k) % 8 = k:=by omega
 rw [e1,e2]
theorem regN_crc (l:List UInt8):∀ m,m ≤ l.length → regN (bitAt l) (8 * m) = crc (l.take m):=by
 intro m
 induction m with
 | zero=>intro _; rfl
 | succ m ih =>
  intro hm
  have h:=regN_in (bitAt l) (8 * m) _ (l.getD m 0).toNat (ih (by omega)) (fun k hk=>bitAt_in l m k hk) 8 (by omega)
  have e:8 * (m + 1) = 8 * m + 8:=by omega
  rw [e,h]
  have hz:(l.getD m 0).toNat / 2 ^ 8 = 0:=Nat.div_eq_of_lt (byte_lt _)
  rw [hz,Nat.xor_zero,List.take_succ_eq_append_getElem (by omega),crc_snoc]
  congr 3
  simp [List.getD,List.getElem?_eq_getElem (show m < l.length by omega)]
theorem regN_all (l:List UInt8):regN (bitAt l) (8 * l.length) = crc l:=by
 rw [regN_crc l l.length (Nat.le_refl _),List.take_length]
/-- Which places the divisor turns. -/
theorem poly_bit (j:Nat):(40961:Nat).testBit j = (decide (j = 0) || decide (j = 13) || decide (j = 15)):=by
 by_cases h:j < 16
 ·have:∀ j:Fin 16,(40961:Nat).testBit j.val = (decide (j.val = 0) || decide (j.val = 13) || decide (j.val = 15)):=by decide
  exact this ⟨j,h⟩
 ·have h16:(40961:Nat) < 2 ^ j:=Nat.lt_of_lt_of_le (by decide:40961 < 2 ^ 16) (Nat.pow_le_pow_right (by decide) (by omega))
  rw [Nat.testBit_lt_two_pow h16]
  simp
  omega
/-- What the array holds behind i steps,from place i on. -/
def left (B:Nat → Bool) (i j:Nat):Bool:=B j ^^ (regN B i).testBit (j - i)
theorem left_step (B:Nat → Bool) (i j:Nat) (h:i + 1 ≤ j) :
  left B (i + 1) j = (left B i j ^^ (left B i i && (decide (j = i + 1) || decide (j = i + 14) || decide (j = i + 16)))):=by
 unfold left
 rw [regN,Nat.testBit_xor]
 have e:j - i = (j - (i + 1)) + 1:=by omega
 have e2:i - i = 0:=by omega
 rw [e,e2,Nat.testBit_add_one]
 have d:(decide (j = i + 1) || decide (j = i + 14) || decide (j = i + 16)) = (40961:Nat).testBit (j - (i + 1)):=by
  rw [poly_bit]
  have a1:(j = i + 1) ↔ (j - (i + 1) = 0):=by omega
  have a2:(j = i + 14) ↔ (j - (i + 1) = 13):=by omega
  have a3:(j = i + 16) ↔ (j - (i + 1) = 15):=by omega
  simp only [a1,a2,a3]
 rw [d]
 cases (B i ^^ (regN B i).testBit 0)
 ·simp
 ·simp
/-- The remainder's bytes,gathered from the highest bit down. -/
theorem gather (x m:Nat):2 * (x / 2 ^ (m + 1)) + (if x.testBit m then 1 else 0) = x / 2 ^ m:=by
 rw [← half_pow]
 have h:=Nat.div_add_mod (x / 2 ^ m) 2
 have t:(if x.testBit m then 1 else 0) = (x / 2 ^ m) % 2:=by
  have:x.testBit m = (x / 2 ^ m).testBit 0:=by rw [Nat.testBit_div_two_pow]; simp
  rw [this,Nat.testBit_zero]
  rcases Nat.mod_two_eq_zero_or_one (x / 2 ^ m) with e | e <;> simp [e]
 omega
/-- The checks' bytes. -/
def crcS (l:List UInt8):List UInt8:=[UInt8.ofNat (crc l % 256),UInt8.ofNat (crc l / 256)]
def xorS (l:List UInt8):List UInt8:=[UInt8.ofNat (xorB l)]
def sumS (check:Int) (l:List UInt8):List UInt8:=if check = 1 then crcS l else if check = 0 then xorS l else []
def sumE (check:Int):Int:=if check = 1 then 0 else if check = 0 then 0 else 1
end Go.Proofs.YtlbpjcphhocdkaaGreat.Crc
namespace Go.Proofs.YtlbpjcphhocdkaaGreat
open Go.RowKit Go.Joins
theorem wrap_u16' (n:Int):IntKind.u16.wrap n = n % 65536:=by simp [IntKind.wrap,IntKind.bits,IntKind.signed]
theorem wrap_u8' (n:Int):IntKind.u8.wrap n = n % 256:=by simp [IntKind.wrap,IntKind.bits,IntKind.signed]
theorem xor_u16 (a b:Nat) (ha:a < 65536) (hb:b < 65536):bits .xor .u16 (a:Int) (b:Int) = ((a ^^^ b:Nat):Int):=by
 have hx:a ^^^ b < 2 ^ 16:=Nat.xor_lt_two_pow (by omega) (by omega)
 have h1:(BitVec.ofInt 16 (a:Int)).toNat = a:=by
  rw [BitVec.ofInt_natCast,BitVec.toNat_ofNat]; exact Nat.mod_eq_of_lt (by omega)
 have h2:(BitVec.ofInt 16 (b:Int)).toNat = b:=by
  rw [BitVec.ofInt_natCast,BitVec.toNat_ofNat]; exact Nat.mod_eq_of_lt (by omega)
 show IntKind.u16.wrap ((BitVec.ofInt 16 (a:Int) ^^^ BitVec.ofInt 16 (b:Int)).toNat:Int) = _
 rw [BitVec.toNat_xor,h1,h2,wrap_u16']
 omega
theorem xor_u8 (a b:Nat) (ha:a < 256) (hb:b < 256):bits .xor .u8 (a:Int) (b:Int) = ((a ^^^ b:Nat):Int):=by
 have hx:a ^^^ b < 2 ^ 8:=Nat.xor_lt_two_pow (by omega) (by omega)
 have h1:(BitVec.ofInt 8 (a:Int)).toNat = a:=by
  rw [BitVec.ofInt_natCast,BitVec.toNat_ofNat]; exact Nat.mod_eq_of_lt (by omega)
 have h2:(BitVec.ofInt 8 (b:Int)).toNat = b:=by
  rw [BitVec.ofInt_natCast,BitVec.toNat_ofNat]; exact Nat.mod_eq_of_lt (by omega)
 show IntKind.u8.wrap ((BitVec.ofInt 8 (a:Int) ^^^ BitVec.ofInt 8 (b:Int)).toNat:Int) = _
 rw [BitVec.toNat_xor,h1,h2,wrap_u8']
 omega
theorem mask_u16 (a i:Nat) (ha:a < 65536) (hi:i ≤ 16):bits .and .u16 (a:Int) (2 ^ i - 1) = ((a % 2 ^ i:Nat):Int):=by
 have h:=bits_mask .u16 16 (by decide) (fun n h0 h1=>by rw [wrap_u16']; omega) i hi (a:Int) (by omega) (by omega)
 rw [h]
 simp
theorem and1_u16 (a:Nat) (ha:a < 65536):bits .and .u16 (a:Int) 1 = ((a % 2:Nat):Int):=mask_u16 a 1 ha (by decide)
theorem and255_u16 (a:Nat) (ha:a < 65536):bits .and .u16 (a:Int) 255 = ((a % 256:Nat):Int):=mask_u16 a 8 ha (by decide)
theorem divideByte_any (r:Nat) (w:World) (h1:r < 65536) :
  Calls Tryz.prog 114 #[.int .u16 r] w fun e w'=>e = .returned (.int .u16 (Crc.shN 8 r:Nat)) ∧ w' = w:=by
 go_enter Tryz.func114,Tryz.ntmps114
 go_wp2
 go_loop [0,3] (fun q i=>∃ k:Nat,k ≤ 8 ∧ i = .int .i64 k ∧ q = .int .u16 (Crc.shN k r:Nat)) (fun _ i=>(8 - intOf i).toNat)
 case atStart=>exact ⟨0,by omega,rfl,rfl⟩
 case round =>
  obtain ⟨k,hk,rfl,rfl⟩:=hrel
  have hx:=Crc.shN_lt k h1
  have H:Hid (Crc.shN (k + 1) r = Crc.sh (Crc.shN k r)):=rfl
  by_cases hlt:k < 8
  ·generalize Crc.shN k r = x at *
   have ha:=and1_u16 x hx
   have ho:(x:Int) / 2 = ((x / 2:Nat):Int):=by omega
   by_cases hp:x % 2 = 1
   ·have hs:Hid (Crc.sh x = (x / 2) ^^^ 40961):=by simp [Hid,Crc.sh,hp]
    have hxo:bits .xor .u16 ((x / 2:Nat):Int) 40961 = (((x / 2) ^^^ 40961:Nat):Int):=xor_u16 (x / 2) 40961 (by omega) (by omega)
    have HX:Hid (bits .xor .u16 ((x / 2:Nat):Int) 40961 = (((x / 2) ^^^ 40961:Nat):Int)):=hxo
    clear hxo
    have hd:(bits BinOp.and IntKind.u16 (x:Int) 1 == 1) = true:=by rw [ha,hp]; rfl
    clear ha hp
    have HO:Hid ((x:Int) / 2 = ((x / 2:Nat):Int)):=ho
    clear ho
    go_wp2
    go_round
    case rel=>exact ⟨k + 1,by omega,by go_num,by rw [H.out,hs.out,HO.out,HX.out]⟩
    case measure=>simp [intOf]; omega
   ·have hs:Hid (Crc.sh x = x / 2):=by simp [Hid,Crc.sh,hp]
    have hd:(bits BinOp.and IntKind.u16 (x:Int) 1 == 1) = false:=by rw [ha,show x % 2 = 0 by omega]; rfl
    clear ha hp
    have HO:Hid ((x:Int) / 2 = ((x / 2:Nat):Int)):=ho
    clear ho
    go_wp2
    go_round
    case rel=>exact ⟨k + 1,by omega,by go_num,by rw [H.out,hs.out,HO.out]⟩
    case measure=>simp [intOf]; omega
  ·obtain rfl:k = 8:=by omega
   go_wp2
   go_ret
   exact ⟨rfl,rfl⟩
theorem take_snoc (s:ByteArray) (k:Nat) (h:k < s.size):s.data.toList.take (k + 1) = s.data.toList.take k ++ [s[k]]:=by
 rw [List.take_succ_eq_append_getElem (by simpa using h)]; rfl
theorem xorByte_any (s:ByteArray) (w:World) (hs:s.size ≤ 140737488352000) :
  Calls Tryz.prog 93 #[.string s] w fun e w'=>e = .returned (.string ⟨(Crc.xorS s.data.toList).toArray⟩) ∧ Below w.heap.size w w':=by
 have c1:=conv_lit1
 go_enter Tryz.func93,Tryz.ntmps93
 go_wp2
 go_loop [3,4] (fun r i=>∃ k:Nat,k ≤ s.size ∧ i = .int .i64 k ∧ r = .int .u8 (Crc.xorB (s.data.toList.take k):Nat)) (fun _ i=>s.size - (intOf i).toNat)
 case atStart=>exact ⟨0,by omega,rfl,rfl⟩
 case round =>
  obtain ⟨k,hk,rfl,rfl⟩:=hrel
  by_cases hlt:k < s.size
  ·have hx:=Crc.xorB_lt (s.data.toList.take k)
   have hb:=Crc.byte_lt s[k]
   have HS:Hid (Crc.xorB (s.data.toList.take (k + 1)) = Crc.xorB (s.data.toList.take k) ^^^ s[k].toNat):=by rw [Hid,take_snoc s k hlt,Crc.xorB_snoc]
   have HX:Hid (bits .xor .u8 (Crc.xorB (s.data.toList.take k):Int) (s[k].toNat:Int) = ((Crc.xorB (s.data.toList.take k) ^^^ s[k].toNat:Nat):Int)):=xor_u8 _ _ hx hb
   go_wp2
   go_round
   case rel=>exact ⟨k + 1,by omega,by go_num,by rw [HS.out,HX.out]⟩
   case measure=>simp [intOf]; omega
  ·have HT:Hid (s.data.toList.take k = s.data.toList):=List.take_of_length_le (by simp; omega)
   go_wp2
   go_ret
   refine ⟨?_,(Below.refl _ _).alloc (Nat.le_refl _) _⟩
   rw [HT.out]
   simp [Crc.xorS,strOfNums]
theorem cyclicBytes_any (s:ByteArray) (w:World) (hs:s.size ≤ 140737488352000) :
  Calls Tryz.prog 92 #[.string s] w fun e w'=>e = .returned (.string ⟨(Crc.crcS s.data.toList).toArray⟩) ∧ Below w.heap.size w w':=by
 have c2:=conv_lit2
 go_enter Tryz.func92,Tryz.ntmps92
 go_wp2
 go_loop [3,4] (fun r i=>∃ k:Nat,k ≤ s.size ∧ i = .int .i64 k ∧ r = .int .u16 (Crc.crc (s.data.toList.take k):Nat)) (fun _ i=>s.size - (intOf i).toNat)
 case atStart=>exact ⟨0,by omega,rfl,rfl⟩
 case round =>
  obtain ⟨k,hk,rfl,rfl⟩:=hrel
  have hx:=Crc.crc_lt (s.data.toList.take k)
  by_cases hlt:k < s.size
  ·have hb:=Crc.byte_lt s[k]
   have HS:Hid (Crc.crc (s.data.toList.take (k + 1)) = Crc.shN 8 (Crc.crc (s.data.toList.take k) ^^^ s[k].toNat)):=by rw [Hid,take_snoc s k hlt,Crc.crc_snoc]
   have HL:=Crc.crc_step_lt hx hb
   have HX:bits .xor .u16 (Crc.crc (s.data.toList.take k):Int) (s[k].toNat:Int) = ((Crc.crc (s.data.toList.take k) ^^^ s[k].toNat:Nat):Int):=xor_u16 _ _ hx (by omega)
   generalize Crc.crc (s.data.toList.take k) = x at *
   go_wp2_with (first | (go_at_call 114; refine (divideByte_any (x ^^^ s[k].toNat) _ HL).mono ?_; rintro e w1 ⟨rfl,rfl⟩))
   go_round
   case rel=>exact ⟨k + 1,by omega,by go_num,by rw [HS.out]⟩
   case measure=>simp [intOf]; omega
  ·have HT:Hid (s.data.toList.take k = s.data.toList):=List.take_of_length_le (by simp; omega)
   rw [HT.out] at hx
   rw [HT.out]
   have HC:Hid (Crc.crcS s.data.toList = [UInt8.ofNat (Crc.crc s.data.toList % 256),UInt8.ofNat (Crc.crc s.data.toList / 256)]):=rfl
   generalize Crc.crc s.data.toList = x at *
   have ha:bits .and .u16 (x:Int) 255 = ((x % 256:Nat):Int):=and255_u16 x hx
   go_wp2
   go_ret
   refine ⟨?_,(Below.refl _ _).alloc (Nat.le_refl _) _⟩
   rw [HC.out]
   simp [strOfNums]
   exact ⟨congrArg UInt8.ofNat (by omega),congrArg UInt8.ofNat (by omega)⟩
theorem isCheck_any (c:Int) (w:World) :
  Calls Tryz.prog 67 #[.int .i64 c] w fun e w'=>e = .returned (.bool (decide (c = 0 ∨ c = 1))) ∧ w' = w:=by
 by_cases h0:c = 0
 ·subst h0
  go_enter Tryz.func67,Tryz.ntmps67
  go_wp2
  go_ret
  exact ⟨rfl,rfl⟩
 ·by_cases h1:c = 1
  ·subst h1
   go_enter Tryz.func67,Tryz.ntmps67
   go_wp2
   go_ret
   exact ⟨rfl,rfl⟩
  ·have e0:(c == 0) = false:=by simp [h0]
   have e1:(c == 1) = false:=by simp [h1]
   go_enter Tryz.func67,Tryz.ntmps67
   go_wp2
   go_ret
   exact ⟨by simp [h0,h1],rfl⟩
theorem checkBytes_any (s:ByteArray) (c:Int) (w:World) (hs:s.size ≤ 140737488352000) (hc:c = 0 ∨ c = 1) :
  Calls Tryz.prog 68 #[.string s,.int .i64 c] w fun e w'=>e = .returned (.string ⟨(Crc.sumS c s.data.toList).toArray⟩) ∧ Below w.heap.size w w':=by
 rcases hc with rfl | rfl
 ·go_enter Tryz.func68,Tryz.ntmps68
  go_wp2_with (first | (go_at_call 93; refine (xorByte_any s _ hs).mono ?_; rintro e w1 ⟨rfl,hb1⟩))
  go_ret
  exact ⟨rfl,by assumption⟩
 ·go_enter Tryz.func68,Tryz.ntmps68
  go_wp2_with (first | (go_at_call 92; refine (cyclicBytes_any s _ hs).mono ?_; rintro e w1 ⟨rfl,hb1⟩))
  go_ret
  exact ⟨rfl,by assumption⟩
end Go.Proofs.YtlbpjcphhocdkaaGreat
namespace Go.Proofs.YtlbpjcphhocdkaaGreat.Blk
/-- The control characters. -/
def isCtl (u:UInt8):Bool:=decide (u.toNat = 1 ∨ u.toNat = 2 ∨ u.toNat = 3 ∨ u.toNat = 4 ∨ u.toNat = 5 ∨ u.toNat = 16 ∨ u.toNat = 21 ∨ u.toNat = 22 ∨ u.toNat = 23 ∨ u.toNat = 31)
def hasCtl (l:List UInt8):Bool:=l.any isCtl
def headOk (h:List UInt8):Bool:=decide (h.length ≤ 8) && !hasCtl h
def partOk (clear:Bool) (p:List UInt8):Bool:=decide (p.length ≤ 32) && (clear || !hasCtl p)
/-- The error of a block. -/
def berr (h:List UInt8) (ps:List (List UInt8)) (clear:Bool):Int :=
 if headOk h = false then 2 else if ps.length < 1 ∨ 4 < ps.length then 3 else if ps.all (partOk clear) = false then 4 else 0
def dbl (l:List UInt8):List UInt8:=l.flatMap fun c=>if c.toNat = 16 then [16,16] else [c]
def txt (clear:Bool) (p:List UInt8):List UInt8:=if clear then dbl p else p
def openL (h:List UInt8) (clear:Bool):List UInt8:=(if h = [] then [] else 1::h) ++ ((if clear then [16] else []) ++ [2])
def endC (last:Bool) (n i:Nat):UInt8:=if i + 1 < n then 31 else if last then 3 else 23
def endL (clear last:Bool) (n i:Nat):List UInt8:=(if clear then [16] else []) ++ [endC last n i]
/-- What the i-th check covers. -/
def seg (h:List UInt8) (ps:List (List UInt8)) (clear last:Bool) (i:Nat):List UInt8 :=
 (if i = 0 then openL h clear else []) ++ (txt clear (ps.getD i []) ++ endL clear last ps.length i)
def bodyTo (h:List UInt8) (ps:List (List UInt8)) (clear last:Bool) (check:Int):Nat → List UInt8
 | 0=>[]
 | k + 1=>bodyTo h ps clear last check k ++ (seg h ps clear last k ++ Crc.sumS check (seg h ps clear last k))
def body (h:List UInt8) (ps:List (List UInt8)) (clear last:Bool) (check:Int):List UInt8:=bodyTo h ps clear last check ps.length
/-- P5. -/
def encE (h:List UInt8) (ps:List (List UInt8)) (clear:Bool) (check:Int):Int :=
 if check = 0 ∨ check = 1 then berr h ps clear else 1
def encS (h:List UInt8) (ps:List (List UInt8)) (clear last:Bool) (check:Int):List UInt8 :=
 if encE h ps clear check = 0 then [22,22] ++ body h ps clear last check ++ [255] else []
theorem hasCtl_snoc (l:List UInt8) (c:UInt8):hasCtl (l ++ [c]) = (hasCtl l || isCtl c):=by simp [hasCtl]
theorem hasCtl_take {l:List UInt8} {k:Nat} (h:hasCtl (l.take k) = true):hasCtl l = true:=by
 unfold hasCtl at *
 rw [List.any_eq_true] at *
 obtain ⟨x,hx,hc⟩:=h
 exact ⟨x,List.mem_of_mem_take hx,hc⟩
theorem dbl_snoc (l:List UInt8) (c:UInt8):dbl (l ++ [c]) = dbl l ++ (if c.toNat = 16 then [16,16] else [c]):=by simp [dbl]
theorem dbl_length (l:List UInt8):(dbl l).length ≤ 2 * l.length:=by
 unfold dbl
 induction l with
 | nil=>simp
 | cons c l ih=>simp only [List.flatMap_cons,List.length_append,List.length_cons]; split <;> simp only [List.length_cons,List.length_nil] <;> omega
theorem txt_length (clear:Bool) (l:List UInt8):(txt clear l).length ≤ 2 * l.length:=by
 unfold txt
 split
 ·exact dbl_length l
 ·omega
theorem openL_length (h:List UInt8) (clear:Bool):(openL h clear).length ≤ h.length + 3:=by
 unfold openL
 split <;> split <;> simp
 all_goals omega
theorem endL_length (clear last:Bool) (n i:Nat):(endL clear last n i).length ≤ 2:=by
 unfold endL
 split <;> simp
theorem sumS_length (check:Int) (l:List UInt8):(Crc.sumS check l).length ≤ 2:=by
 unfold Crc.sumS
 split
 ·simp [Crc.crcS]
 ·split <;> simp [Crc.xorS]
theorem seg_length (h:List UInt8) (ps:List (List UInt8)) (clear last:Bool) (i m:Nat) (hm:(ps.getD i []).length ≤ m):(seg h ps clear last i).length ≤ h.length + 2 * m + 5:=by
 unfold seg
 have h1:=openL_length h clear
 have h2:=txt_length clear (ps.getD i [])
 have h3:=endL_length clear last ps.length i
 split <;> simp only [List.length_append,List.length_nil] <;> omega
theorem bodyTo_length (h:List UInt8) (ps:List (List UInt8)) (clear last:Bool) (check:Int) (m:Nat) (hm:∀ i,(ps.getD i []).length ≤ m) (k:Nat) :
  (bodyTo h ps clear last check k).length ≤ k * (h.length + 2 * m + 7):=by
 induction k with
 | zero=>simp [bodyTo]
 | succ k ih =>
  have h1:=seg_length h ps clear last k m (hm k)
  have h2:=sumS_length check (seg h ps clear last k)
  simp only [bodyTo,List.length_append]
  have:(k + 1) * (h.length + 2 * m + 7) = k * (h.length + 2 * m + 7) + (h.length + 2 * m + 7):=Nat.succ_mul _ _
  omega
/-- Of a good block no part is longer than 32. -/
theorem parts_le {ps:List (List UInt8)} {clear:Bool} (h:ps.all (partOk clear) = true) (i:Nat):(ps.getD i []).length ≤ 32:=by
 by_cases hi:i < ps.length
 ·have:=List.all_eq_true.1 h ps[i] (List.getElem_mem hi)
  unfold partOk at this
  simp only [Bool.and_eq_true,decide_eq_true_eq] at this
  simpa [List.getD,List.getElem?_eq_getElem hi] using this.1
 ·simp [List.getD,List.getElem?_eq_none (Nat.le_of_not_lt hi)]
theorem berr_ok {h:List UInt8} {ps:List (List UInt8)} {clear:Bool} (e:berr h ps clear = 0) :
  headOk h = true ∧ 1 ≤ ps.length ∧ ps.length ≤ 4 ∧ ps.all (partOk clear) = true:=by
 unfold berr at e
 split at e
 ·omega
 ·split at e
  ·omega
  ·split at e
   ·omega
   ·rename_i a b c
    refine ⟨by simpa using a,by omega,by omega,by simpa using c⟩
theorem headOk_le {h:List UInt8} (e:headOk h = true):h.length ≤ 8:=by
 unfold headOk at e
 simp only [Bool.and_eq_true,decide_eq_true_eq] at e
 exact e.1
end Go.Proofs.YtlbpjcphhocdkaaGreat.Blk
namespace Go.Proofs.YtlbpjcphhocdkaaGreat
open Go.RowKit
theorem isControl_any (u:UInt8) (w:World) :
  Calls Tryz.prog 102 #[.int .u8 u.toNat] w fun e w'=>e = .returned (.bool (Blk.isCtl u)) ∧ w' = w:=by
 generalize hn:u.toNat = n
 have H:Hid (Blk.isCtl u = decide (n = 1 ∨ n = 2 ∨ n = 3 ∨ n = 4 ∨ n = 5 ∨ n = 16 ∨ n = 21 ∨ n = 22 ∨ n = 23 ∨ n = 31)):=by subst hn; rfl
 have hl:=Crc.byte_lt u
 rw [hn] at hl
 clear hn
 go_enter Tryz.func102,Tryz.ntmps102
 go_wp2
 all_goals go_ret
 all_goals refine ⟨?_,rfl⟩
 all_goals rw [H.out]
 all_goals (simp only [beq_iff_eq,beq_eq_false_iff_ne,ne_eq] at *)
 all_goals (congr 2; simp; omega)
theorem hasControl_any (s:ByteArray) (w:World) (hs:s.size ≤ 140737488352000) :
  Calls Tryz.prog 84 #[.string s] w fun e w'=>e = .returned (.bool (Blk.hasCtl s.data.toList)) ∧ w' = w:=by
 go_enter Tryz.func84,Tryz.ntmps84
 go_wp2
 go_loop [3] (fun i=>∃ k:Nat,k ≤ s.size ∧ i = .int .i64 k ∧ Blk.hasCtl (s.data.toList.take k) = false) (fun i=>s.size - (intOf i).toNat)
 case atStart=>exact ⟨0,by omega,rfl,rfl⟩
 case round =>
  obtain ⟨k,hk,rfl,hn⟩:=hrel
  have HN:=hide hn
  clear hn
  by_cases hlt:k < s.size
  ·have HT:=hide (take_snoc s k hlt)
   cases hc:Blk.isCtl s[k]
   ·have HC:=hide hc
    clear hc
    go_wp2_with (first | (go_at_call 102; refine (isControl_any s[k] _).mono ?_; rintro e w1 ⟨rfl,rfl⟩; rw [HC.out]))
    go_round
    case rel=>exact ⟨k + 1,by omega,by go_num,by rw [HT.out,Blk.hasCtl_snoc,HN.out,HC.out]; rfl⟩
    case measure=>simp [intOf]; omega
   ·have HC:=hide hc
    clear hc
    have HF:Hid (Blk.hasCtl s.data.toList = true):=Blk.hasCtl_take (k:=k + 1) (by rw [HT.out,Blk.hasCtl_snoc,HC.out]; simp)
    go_wp2_with (first | (go_at_call 102; refine (isControl_any s[k] _).mono ?_; rintro e w1 ⟨rfl,rfl⟩; rw [HC.out]))
    go_ret
    exact ⟨by rw [HF.out]; rfl,rfl⟩
  ·have HT:Hid (s.data.toList.take k = s.data.toList):=List.take_of_length_le (by simp; omega)
   go_wp2
   go_ret
   exact ⟨by rw [← HT.out,HN.out]; rfl,rfl⟩
theorem size_list (s:ByteArray):s.data.toList.length = s.size:=by simp
theorem isHead_any (s:ByteArray) (w:World) (hs:s.size ≤ 140737488352000) :
  Calls Tryz.prog 58 #[.string s] w fun e w'=>e = .returned (.bool (Blk.headOk s.data.toList)) ∧ w' = w:=by
 have HH:Hid (Blk.headOk s.data.toList = (decide (s.size ≤ 8) && !Blk.hasCtl s.data.toList)):=by unfold Hid Blk.headOk; rw [size_list]
 by_cases h:s.size ≤ 8
 ·have h':(s.size:Int) ≤ 8:=by omega
  go_enter Tryz.func58,Tryz.ntmps58
  go_wp2_with (first | (go_at_call 84; refine (hasControl_any s _ hs).mono ?_; rintro e w1 ⟨rfl,rfl⟩))
  go_ret
  exact ⟨by rw [HH.out]; simp [h],rfl⟩
 ·have h':¬ (s.size:Int) ≤ 8:=by omega
  go_enter Tryz.func58,Tryz.ntmps58
  go_wp2
  go_ret
  exact ⟨by rw [HH.out]; simp [h],rfl⟩
theorem isText_any (s:ByteArray) (m:Nat) (c:Bool) (w:World) (hs:s.size ≤ 140737488352000) (_hm:m ≤ 1000) :
  Calls Tryz.prog 59 #[.string s,.int .i64 m,.bool c] w fun e w'=>e = .returned (.bool (decide (s.data.toList.length ≤ m) && (c || !Blk.hasCtl s.data.toList))) ∧ w' = w:=by
 rw [size_list]
 by_cases h:s.size ≤ m
 ·have h':(s.size:Int) ≤ (m:Int):=by omega
  cases c
  ·go_enter Tryz.func59,Tryz.ntmps59
   go_wp2_with (first | (go_at_call 84; refine (hasControl_any s _ hs).mono ?_; rintro e w1 ⟨rfl,rfl⟩))
   go_ret
   exact ⟨by simp [h],rfl⟩
  ·go_enter Tryz.func59,Tryz.ntmps59
   go_wp2
   go_ret
   exact ⟨by simp [h],rfl⟩
 ·have h':¬ (s.size:Int) ≤ (m:Int):=by omega
  go_enter Tryz.func59,Tryz.ntmps59
  go_wp2
  go_ret
  exact ⟨by simp,rfl⟩
theorem isPart_any (s:ByteArray) (c:Bool) (w:World) (hs:s.size ≤ 140737488352000) :
  Calls Tryz.prog 59 #[.string s,.int .i64 32,.bool c] w fun e w'=>e = .returned (.bool (Blk.partOk c s.data.toList)) ∧ w' = w:=isText_any s 32 c w hs (by omega)
/-- The list at the address a holds the texts l. -/
def Texts (w:World) (a:Option Addr) (l:List ByteArray):Prop :=
 l = [] ∨ ∃ b o,a = some ⟨b,o,none⟩ ∧ ∀ i,i < l.length → w.cell? ⟨b,o + i,none⟩ = some (.string (l.getD i ByteArray.empty))
theorem Texts.below {w w':World} {a:Option Addr} {l:List ByteArray} (h:Texts w a l) (hb:Below w.heap.size w w'):Texts w' a l:=by
 rcases h with h | ⟨b,o,ha,h⟩
 ·exact Or.inl h
 ·refine Or.inr ⟨b,o,ha,fun i hi=>?_⟩
  have:=h i hi
  rw [hb.cell (World.block_lt_of_cell? w _ this)]
  exact this
/-- Block g holds a block's four cells. -/
def BlkAt (w:World) (g:Nat) (h v c t:Value):Prop:=w.heap[g]? = some (.cells #[h,v,c,t] 57 (0,0))
theorem BlkAt.cell0 {w:World} {g:Nat} {h v c t:Value} (k:BlkAt w g h v c t):w.cell? ⟨g,0,none⟩ = some h:=by unfold BlkAt at k; simp [World.cell?,k]
theorem BlkAt.cell1 {w:World} {g:Nat} {h v c t:Value} (k:BlkAt w g h v c t):w.cell? ⟨g,1,none⟩ = some v:=by unfold BlkAt at k; simp [World.cell?,k]
theorem BlkAt.cell2 {w:World} {g:Nat} {h v c t:Value} (k:BlkAt w g h v c t):w.cell? ⟨g,2,none⟩ = some c:=by unfold BlkAt at k; simp [World.cell?,k]
theorem BlkAt.cell3 {w:World} {g:Nat} {h v c t:Value} (k:BlkAt w g h v c t):w.cell? ⟨g,3,none⟩ = some t:=by unfold BlkAt at k; simp [World.cell?,k]
theorem BlkAt.new (w:World) (h v c t:Value):BlkAt (w.alloc (.cells #[h,v,c,t] 57)) w.heap.size h v c t:=heap_alloc_new w _
theorem BlkAt.below {w w':World} {g B:Nat} {h v c t:Value} (k:BlkAt w g h v c t) (hb:Below B w w') (hg:g < B):BlkAt w' g h v c t:=(hb.block g hg).trans k
def datas (l:List ByteArray):List (List UInt8):=l.map fun s=>s.data.toList
theorem datas_length (l:List ByteArray):(datas l).length = l.length:=by simp [datas]
theorem datas_getD (l:List ByteArray) (i:Nat):(datas l).getD i [] = (l.getD i ByteArray.empty).data.toList:=by
 unfold datas
 simp only [List.getD,List.getElem?_map]
 cases l[i]? <;> rfl
theorem all_take_succ (f:List UInt8 → Bool) (l:List (List UInt8)) (k:Nat) (hk:k < l.length):(l.take (k + 1)).all f = ((l.take k).all f && f (l.getD k [])):=by
 rw [List.take_succ_eq_append_getElem hk,List.all_append]
 simp [List.getD,List.getElem?_eq_getElem hk]
theorem blockError_any (h:ByteArray) (a:Option Addr) (l:List ByteArray) (cap:Nat) (c t:Bool) (w:World)
  (hh:h.size ≤ 140737488352000) (hl:∀ s ∈ l,s.size ≤ 140737488352000) (hn:l.length ≤ 140737488352000) (ht:Texts w a l) :
  Calls Tryz.prog 71 #[.agg #[.string h,.slice a l.length cap,.bool c,.bool t]] w fun e w'=>e = .returned (.int .i64 (Blk.berr h.data.toList (datas l) c)) ∧ Below w.heap.size w w':=by
 by_cases hk:Blk.headOk h.data.toList = false
 ·have HE:Hid (Blk.berr h.data.toList (datas l) c = 2):=by simp [Hid,Blk.berr,hk]
  have HK:=hide hk
  clear hk
  go_enter Tryz.func71,Tryz.ntmps71
  go_wp2_with (first | (go_at_call 58; refine (isHead_any h _ hh).mono ?_; rintro e w1 ⟨rfl,rfl⟩; rw [HK.out]))
  go_ret
  exact ⟨by rw [HE.out]; rfl,(Below.refl _ _).alloc (Nat.le_refl _) _⟩
 ·have hk:Blk.headOk h.data.toList = true:=by simpa using hk
  have HK:=hide hk
  by_cases hp:l.length < 1 ∨ 4 < l.length
  ·have HE:Hid (Blk.berr h.data.toList (datas l) c = 3):=by simp only [Hid,Blk.berr,hk,datas_length]; rw [if_neg (by simp),if_pos hp]
   clear hk
   rcases hp with hp | hp
   ·have hp':(l.length:Int) < 1:=by omega
    go_enter Tryz.func71,Tryz.ntmps71
    go_wp2_with (first | (go_at_call 58; refine (isHead_any h _ hh).mono ?_; rintro e w1 ⟨rfl,rfl⟩; rw [HK.out]))
    go_ret
    exact ⟨by rw [HE.out]; rfl,(Below.refl _ _).alloc (Nat.le_refl _) _⟩
   ·have hp1:¬ (l.length:Int) < 1:=by omega
    have hp2:4 < (l.length:Int):=by omega
    go_enter Tryz.func71,Tryz.ntmps71
    go_wp2_with (first | (go_at_call 58; refine (isHead_any h _ hh).mono ?_; rintro e w1 ⟨rfl,rfl⟩; rw [HK.out]))
    go_ret
    exact ⟨by rw [HE.out]; rfl,(Below.refl _ _).alloc (Nat.le_refl _) _⟩
  ·have hp1:¬ (l.length:Int) < 1:=by omega
   have hp2:¬ 4 < (l.length:Int):=by omega
   have HE:Hid (Blk.berr h.data.toList (datas l) c = if (datas l).all (Blk.partOk c) = false then 4 else 0):=by simp only [Hid,Blk.berr,hk,datas_length]; rw [if_neg (by simp),if_neg hp]
   clear hk hp
   obtain ⟨b,o,rfl,hcell⟩:∃ b o,a = some ⟨b,o,none⟩ ∧ ∀ i,i < l.length → w.cell? ⟨b,o + i,none⟩ = some (.string (l.getD i ByteArray.empty)):=by
    rcases ht with h | h
    ·subst h; simp at hp1
    ·exact h
   clear ht
   have HCL:=hide hcell
   clear hcell
   have d1:decide ((l.length:Int) < 1) = false:=by simp; omega
   have d2:decide (4 < (l.length:Int)) = false:=by simp; omega
   go_enter Tryz.func71,Tryz.ntmps71
   go_wp2_with (first | (go_at_call 58; refine (isHead_any h _ hh).mono ?_; rintro e w1 ⟨rfl,rfl⟩; rw [HK.out]))
   go_loopw [3] (fun i wr=>∃ k:Nat,k ≤ l.length ∧ i = .int .i64 k ∧ ((datas l).take k).all (Blk.partOk c) = true ∧ BlkAt wr w.heap.size (.string h) (.slice (some ⟨b,o,none⟩) l.length cap) (.bool c) (.bool t) ∧ Below w.heap.size w wr) (fun i _=>l.length - (intOf i).toNat)
   case atStart=>exact ⟨0,by omega,rfl,by simp,BlkAt.new _ _ _ _ _,(Below.refl _ _).alloc (Nat.le_refl _) _⟩
   case round =>
    obtain ⟨k,hk2,rfl,hall,hblk,hbel⟩:=hrel
    have HA:=hide hall
    have c1:=hblk.cell1
    have c2:=hblk.cell2
    clear hall
    by_cases hlt:k < l.length
    ·have hcl:=HCL.out k hlt
     have hb:=World.block_lt_of_cell? w _ hcl
     rw [← hbel.cell hb] at hcl
     have hsz:(l.getD k ByteArray.empty).size ≤ 140737488352000:=by
      have:l.getD k ByteArray.empty = l[k]:=by simp [List.getD,List.getElem?_eq_getElem hlt]
      rw [this]; exact hl _ (List.getElem_mem hlt)
     have HT:=hide (all_take_succ (Blk.partOk c) (datas l) k (by rw [datas_length]; exact hlt))
     rw [datas_getD] at HT
     generalize l.getD k ByteArray.empty = s at *
     have hlt':(k:Int) < (l.length:Int):=by omega
     cases hpo:Blk.partOk c s.data.toList
     ·have HPO:=hide hpo
      have HF:Hid ((datas l).all (Blk.partOk c) = false):=by
       have h1:((datas l).take (k + 1)).all (Blk.partOk c) = false:=by rw [HT.out,hpo]; simp
       cases h2:(datas l).all (Blk.partOk c)
       ·rfl
       ·have h3:=List.all_eq_true.1 h2
        have h4:((datas l).take (k + 1)).all (Blk.partOk c) = true:=List.all_eq_true.2 fun x hx=>h3 x (List.mem_of_mem_take hx)
        rw [h1] at h4; cases h4
      go_wp2
      go_quiet ((go_at_call 59; exact Calls.quiet_of_same (isPart_any _ _ _ hsz)))
      go_wp2
      go_ret
      refine ⟨?_,below_drewN hbel _⟩
      rw [HE.out,HF.out]
      rfl
     ·have HPO:=hide hpo
      go_wp2
      go_quiet ((go_at_call 59; exact Calls.quiet_of_same (isPart_any _ _ _ hsz)))
      go_wp2
      go_roundw
      case rel=>exact ⟨k + 1,by omega,by go_num,by rw [HT.out,HA.out,HPO.out]; rfl,hblk,below_drewN hbel _⟩
      case measure=>simp [intOf]; omega
    ·obtain rfl:k = l.length:=by omega
     have hlt':¬ (l.length:Int) < (l.length:Int):=by omega
     go_wp2
     go_ret
     refine ⟨?_,hbel⟩
     have hal:(datas l).all (Blk.partOk c) = true:=by
      have:=HA.out
      rw [List.take_of_length_le (by rw [datas_length]; omega)] at this
      exact this
     rw [HE.out,hal]
     rfl
theorem txt_snoc_two (l:List UInt8) (u:UInt8) (h:u.toNat = 16):Blk.txt true (l ++ [u]) = Blk.txt true l ++ [16] ++ [u]:=by
 have e:u = 16:=UInt8.toNat_inj.1 h
 subst e
 simp [Blk.txt,Blk.dbl_snoc]
theorem txt_snoc_one (l:List UInt8) (u:UInt8) (h:¬ u.toNat = 16):Blk.txt true (l ++ [u]) = Blk.txt true l ++ [u]:=by simp [Blk.txt,Blk.dbl_snoc,h]
theorem txt_snoc_no (l:List UInt8) (u:UInt8):Blk.txt false (l ++ [u]) = Blk.txt false l ++ [u]:=by simp [Blk.txt]
theorem written_any (s:ByteArray) (c:Bool) (w:World) (hs:s.size ≤ 1000000000) :
  Calls Tryz.prog 95 #[.string s,.bool c] w fun e w'=>e = .returned (.string ⟨(Blk.txt c s.data.toList).toArray⟩) ∧ Below w.heap.size w w':=by
 go_enter Tryz.func95,Tryz.ntmps95
 go_wp2
 go_loopw [5,6] (fun v i wr=>∃ k:Nat,k ≤ s.size ∧ i = .int .i64 k ∧ OwnB wr w.heap.size v (Blk.txt c (s.data.toList.take k)) ∧ Below w.heap.size w wr) (fun _ i _=>s.size - (intOf i).toNat)
 case atStart=>exact ⟨0,by omega,rfl,by cases c <;> exact ownB_lit w w.heap.size #[] [] rfl (Nat.le_refl _) (by decide),(Below.refl _ _).alloc (Nat.le_refl _) _⟩
 case round =>
  obtain ⟨k,hk,rfl,hown,hbel⟩:=hrel
  have hB:=hbel.size
  by_cases hlt:k < s.size
  ·have HT:=hide (take_snoc s k hlt)
   have hlen:=Blk.txt_length c (s.data.toList.take k)
   have htl:(s.data.toList.take k).length ≤ k:=List.length_take_le _ _
   have HLen:Hid ((Blk.txt c (s.data.toList.take k)).length ≤ 2000000000):=by unfold Hid; omega
   clear hlen htl
   cases c
   ·have HS:=hide (txt_snoc_no (s.data.toList.take k) s[k])
    go_wp2_with (first | (at_builtin; refine app_one _ s[k] _ rfl rfl (.tmp 24) (.tmp 28) rfl w.heap.size _ _ _ 1 rfl rfl rfl hown (by have:=HLen.out; omega) w hbel hB ?_; intro v1 W1 hown1 hbel1 hB1))
    go_roundw
    case rel=>exact ⟨k + 1,by omega,by go_num,by rw [HT.out,HS.out]; assumption,by assumption⟩
    case measure=>simp [intOf]; omega
   ·by_cases h16:s[k].toNat = 16
    ·have HS:=hide (txt_snoc_two (s.data.toList.take k) s[k] h16)
     have hd:((s[k].toNat:Int) == 16) = true:=by simp [h16]
     clear h16
     go_wp2_with (first | (at_builtin; refine app_one _ 16 16 (by rfl) rfl (.tmp 21) (.tmp 22) rfl w.heap.size _ _ _ 1 rfl rfl rfl hown (by have:=HLen.out; omega) w hbel hB ?_; intro v1 W1 hown1 hbel1 hB1) | (at_builtin; refine app_one _ s[k] _ rfl rfl (.tmp 24) (.tmp 28) rfl w.heap.size _ _ _ 1 rfl rfl rfl hown1 (by have:=HLen.out; simp; omega) w hbel1 hB1 ?_; intro v2 W2 hown2 hbel2 hB2))
     go_roundw
     case rel=>exact ⟨k + 1,by omega,by go_num,by rw [HT.out,HS.out]; assumption,by assumption⟩
     case measure=>simp [intOf]; omega
    ·have HS:=hide (txt_snoc_one (s.data.toList.take k) s[k] h16)
     have hd:((s[k].toNat:Int) == 16) = false:=by simp; omega
     clear h16
     go_wp2_with (first | (at_builtin; refine app_one _ s[k] _ rfl rfl (.tmp 24) (.tmp 28) rfl w.heap.size _ _ _ 1 rfl rfl rfl hown (by have:=HLen.out; omega) w hbel hB ?_; intro v1 W1 hown1 hbel1 hB1))
     go_roundw
     case rel=>exact ⟨k + 1,by omega,by go_num,by rw [HT.out,HS.out]; assumption,by assumption⟩
     case measure=>simp [intOf]; omega
  ·have HT:Hid (s.data.toList.take k = s.data.toList):=List.take_of_length_le (by simp; omega)
   rw [HT.out] at hown
   have cv:=conv_own _ _ _ _ hown
   go_wp2
   go_ret
   exact ⟨rfl,hbel⟩
theorem ownB_lit_at (w:World) (B g:Nat) (hg:g = w.heap.size) (cs:Array Value) (l:List UInt8) (hc:cs.toList = bcells l) (hB:B ≤ w.heap.size) (hl:l.length ≤ 1000) :
  OwnB (w.alloc (.cells cs 5)) B (.slice (some ⟨g,0,none⟩) l.length l.length) l:=by
 subst hg; exact ownB_lit w B cs l hc hB hl
theorem openL_ff (h:List UInt8) (hn:h = []):Blk.openL h false = [] ++ [2]:=by simp [Blk.openL,hn]
theorem openL_ft (h:List UInt8) (hn:h = []):Blk.openL h true = [] ++ [16] ++ [2]:=by simp [Blk.openL,hn]
theorem openL_tf (h:List UInt8) (hn:¬ h = []):Blk.openL h false = [] ++ [1] ++ h ++ [2]:=by simp [Blk.openL,hn]
theorem openL_tt (h:List UInt8) (hn:¬ h = []):Blk.openL h true = [] ++ [1] ++ h ++ [16] ++ [2]:=by simp [Blk.openL,hn]
theorem opening_any (h:ByteArray) (a:Option Addr) (n cap:Nat) (c t:Bool) (w:World) (hh:h.size ≤ 140737488352000) :
  Calls Tryz.prog 94 #[.agg #[.string h,.slice a n cap,.bool c,.bool t]] w fun e w'=>e = .returned (.string ⟨(Blk.openL h.data.toList c).toArray⟩) ∧ Below w.heap.size w w':=by
 have hblk:=BlkAt.new w (.string h) (.slice a n cap) (.bool c) (.bool t)
 have hl:=ownB_lit_at (w.alloc (.cells #[.string h,.slice a n cap,.bool c,.bool t] 57)) (w.heap.size + 1) (w.heap.size + 1) (by simp) #[] [] rfl (by simp) (by decide)
 have hb0:Below (w.heap.size + 1) (w.alloc (.cells #[.string h,.slice a n cap,.bool c,.bool t] 57)) ((w.alloc (.cells #[.string h,.slice a n cap,.bool c,.bool t] 57)).alloc (.cells #[] 5)):=(Below.refl _ _).alloc (by simp) _
 have fin:∀ W,Below (w.heap.size + 1) (w.alloc (.cells #[.string h,.slice a n cap,.bool c,.bool t] 57)) W → Below w.heap.size w W:=fun W hW=>((Below.refl _ _).alloc (Nat.le_refl _) _).trans (hW.mono (by omega))
 have FIN:=hide fin
 have HBK:=hide hblk
 clear fin hblk
 have hsz:=size_list h
 have HSZ:=hide hsz
 clear hsz
 by_cases hn:h.data.toList = []
 ·have hE:h.toList.isEmpty = true:=by rw [ByteArray.toList_eq]; simp [hn]
  cases c
  ·have HO:=hide (openL_ff _ hn)
   clear hn
   go_enter Tryz.func94,Tryz.ntmps94
   go_wp2_with (first | (at_builtin; refine app_one _ 2 2 (by rfl) rfl (.tmp 20) (.tmp 21) rfl (w.heap.size + 1) _ _ _ 1 rfl rfl (by simp) hl (by simp) _ hb0 (by simp) ?_; intro v1 W1 hown1 hbel1 hB1; have cv:=conv_own _ _ _ _ hown1))
   go_ret
   exact ⟨by rw [HO.out]; rfl,FIN.out _ (by assumption)⟩
  ·have HO:=hide (openL_ft _ hn)
   clear hn
   go_enter Tryz.func94,Tryz.ntmps94
   go_wp2_with (first | (at_builtin; refine app_one _ 16 16 (by rfl) rfl (.tmp 17) (.tmp 18) rfl (w.heap.size + 1) _ _ _ 1 rfl rfl (by simp) hl (by simp) _ hb0 (by simp) ?_; intro v1 W1 hown1 hbel1 hB1) | (at_builtin; refine app_one _ 2 2 (by rfl) rfl (.tmp 20) (.tmp 21) rfl (w.heap.size + 1) _ _ _ 1 rfl rfl rfl hown1 (by simp) _ hbel1 hB1 ?_; intro v2 W2 hown2 hbel2 hB2; have cv:=conv_own _ _ _ _ hown2))
   go_ret
   exact ⟨by rw [HO.out]; rfl,FIN.out _ (by assumption)⟩
 ·have hE:h.toList.isEmpty = false:=by rw [ByteArray.toList_eq]; simpa using hn
  cases c
  ·have HO:=hide (openL_tf _ hn)
   clear hn
   go_enter Tryz.func94,Tryz.ntmps94
   go_wp2_with (first | (at_builtin; refine app_one _ 1 1 (by rfl) rfl (.tmp 8) (.tmp 9) rfl (w.heap.size + 1) _ _ _ 1 rfl rfl (by simp) hl (by simp) _ hb0 (by simp) ?_; intro v1 W1 hown1 hbel1 hB1; have d0:=(HBK.out.below hbel1 (by omega)).cell0) | (at_builtin; refine app_str _ rfl (.tmp 11) (.tmp 13) rfl (w.heap.size + 1) _ _ h rfl rfl hown1 (by simp; omega) _ hbel1 hB1 ?_; intro v2 W2 hown2 hbel2 hB2; have d2:=(HBK.out.below hbel2 (by omega)).cell2) | (at_builtin; refine app_one _ 2 2 (by rfl) rfl (.tmp 20) (.tmp 21) rfl (w.heap.size + 1) _ _ _ 1 rfl rfl rfl hown2 (by simp [HSZ.out]; omega) _ hbel2 hB2 ?_; intro v3 W3 hown3 hbel3 hB3; have cv:=conv_own _ _ _ _ hown3))
   go_ret
   exact ⟨by rw [HO.out]; rfl,FIN.out _ (by assumption)⟩
  ·have HO:=hide (openL_tt _ hn)
   clear hn
   go_enter Tryz.func94,Tryz.ntmps94
   go_wp2_with (first | (at_builtin; refine app_one _ 1 1 (by rfl) rfl (.tmp 8) (.tmp 9) rfl (w.heap.size + 1) _ _ _ 1 rfl rfl (by simp) hl (by simp) _ hb0 (by simp) ?_; intro v1 W1 hown1 hbel1 hB1; have d0:=(HBK.out.below hbel1 (by omega)).cell0) | (at_builtin; refine app_str _ rfl (.tmp 11) (.tmp 13) rfl (w.heap.size + 1) _ _ h rfl rfl hown1 (by simp; omega) _ hbel1 hB1 ?_; intro v2 W2 hown2 hbel2 hB2; have d2:=(HBK.out.below hbel2 (by omega)).cell2) | (at_builtin; refine app_one _ 16 16 (by rfl) rfl (.tmp 17) (.tmp 18) rfl (w.heap.size + 1) _ _ _ 1 rfl rfl rfl hown2 (by simp [HSZ.out]; omega) _ hbel2 hB2 ?_; intro v3 W3 hown3 hbel3 hB3) | (at_builtin; refine app_one _ 2 2 (by rfl) rfl (.tmp 20) (.tmp 21) rfl (w.heap.size + 1) _ _ _ 1 rfl rfl rfl hown3 (by simp [HSZ.out]; omega) _ hbel3 hB3 ?_; intro v4 W4 hown4 hbel4 hB4; have cv:=conv_own _ _ _ _ hown4))
   go_ret
   exact ⟨by rw [HO.out]; simp,FIN.out _ (by assumption)⟩
/-- The slice value v,among the blocks from B on,is a conversion's row and holds just the bytes l. -/
def CnvB (w:World) (B:Nat) (v:Value) (l:List UInt8):Prop :=
 ∃ g cap cur,v = .slice (some ⟨g,0,none⟩) l.length cap ∧ B ≤ g ∧ w.heap[g]? = some (.cells cur 5 (cur.size,cur.size + 1)) ∧ cur.size = cap ∧ l.length ≤ cap ∧ cur.toList.take l.length = bcells l
theorem cnv_new (w:World) (B:Nat) (s:ByteArray) (hB:B ≤ w.heap.size) :
  CnvB (Go.Lib.bytesWorld w 5 s) B (.slice (some ⟨w.heap.size,0,none⟩) s.size (grownCap w s.size 0 5)) s.data.toList:=by
 have hge:=grownCap_ge w s.size 0 5
 have hl:s.data.toList.length = s.size:=by simp
 have hcs:(Go.Lib.bytesCells w 5 s).size = grownCap w s.size 0 5:=by
  unfold Go.Lib.bytesCells
  have:s.data.size = s.size:=rfl
  simp [this]
  omega
 refine ⟨w.heap.size,_,Go.Lib.bytesCells w 5 s,by rw [hl],hB,Go.Lib.bytesWorld_at_new w 5 s,hcs,by omega,?_⟩
 rw [hl]
 unfold Go.Lib.bytesCells bcells
 have:(s.data.toList.map fun b=>Value.int .u8 (b.toNat:Int)).length = s.size:=by simp
 simp only [Array.toList_append,Array.toList_map]
 rw [← this]
 exact List.take_left
theorem cnv_run (w:World) (s:ByteArray):(convert 9 111 (.string s)).run Tryz.prog w = .ok (.slice (some ⟨w.heap.size,0,none⟩) s.size (grownCap w s.size 0 5)) (Go.Lib.bytesWorld w 5 s) :=
 Go.Lib.run_convert_string_bytes (P:=Tryz.prog) w 9 111 5 s Tryz.underlying9 Tryz.underlying111 Tryz.underlying5
theorem cnv_below (w:World) (s:ByteArray):Below w.heap.size w (Go.Lib.bytesWorld w 5 s) :=
 ⟨rfl,rfl,rfl,by rw [Go.Lib.bytesWorld_size]; omega,fun j hj=>Go.Lib.bytesWorld_at_old w 5 s j hj⟩
theorem CnvB.cell {w:World} {B:Nat} {v:Value} {l:List UInt8} (h:CnvB w B v l) :
  ∃ g cap,v = .slice (some ⟨g,0,none⟩) l.length cap ∧ B ≤ g ∧ g < w.heap.size ∧ ∀ j (hj:j < l.length),w.cell? ⟨g,j,none⟩ = some (.int .u8 (l[j].toNat:Int)) ∧ w.frozen? ⟨g,j,none⟩ = false:=by
 obtain ⟨g,cap,cur,rfl,hB,hg,hc,hl,ht⟩:=h
 refine ⟨g,cap,rfl,hB,lt_of_block hg,fun j hj=>⟨?_,?_⟩⟩
 ·rw [cell_of_row _ _ _ _ _ _ hg]
  have:(cur.toList.take l.length)[j]? = (bcells l)[j]?:=by rw [ht]
  rw [List.getElem?_take_of_lt hj] at this
  simp [bcells,List.getElem?_eq_getElem hj] at this
  simpa using this
 ·simp only [World.frozen?,hg,Bool.and_eq_false_iff,decide_eq_false_iff_not]
  left
  omega
theorem conv_cells (W:World) (g cap:Nat) (l:List UInt8) (hc:∀ j (hj:j < l.length),W.cell? ⟨g,j,none⟩ = some (.int .u8 (l[j].toNat:Int))) :
  (convert 111 9 (.slice (some ⟨g,0,none⟩) l.length cap)).run Tryz.prog W = .ok (.string ⟨l.toArray⟩) W:=by
 refine run_convert_bytes_back W 111 9 5 ⟨g,0,none⟩ cap l Tryz.underlying111 Tryz.underlying5 Tryz.underlying9 ?_
 intro j hj
 have e:(⟨g,0,none⟩:Addr).add j = ⟨g,j,none⟩:=by simp [Addr.add_lit]
 rw [e]
 exact hc j hj
section
variable {ops:Array Oper} {rest:List Oper} {o:Oper} {a:Act} {Q:Exit → Act → World → Prop}
/-- One byte behind it: what comes out is as a string those bytes and this one. -/
theorem app_cnv (W:World) (c:UInt8) (n:Int) (hn:n = (c.toNat:Int)) (hgd:o.guard = none) (sl x:Operand)
  (ho:o.op = .call { callee:=.builtin .append,args:=#[sl,x],argTypes:=#[111,111] })
  (B:Nat) (v:Value) (l:List UInt8) (g cp:Nat) (hs:a.eval sl = v) (hx:a.eval x = .slice (some ⟨g,0,none⟩) 1 cp) (hg0:g = W.heap.size) (hown:CnvB W B v l)
  (hlen:l.length + 1 ≤ 140737488355328) (w0:World) (hbel:Below B w0 W) (hB:B ≤ W.heap.size)
  (h:∀ v' W',(convert 111 9 v').run Tryz.prog W' = .ok (.string ⟨(l ++ [c]).toArray⟩) W' → Below B w0 W' → wpList Tryz.prog ops Q rest (a.put o.dst v') W') :
  wpList Tryz.prog ops Q (o::rest) a (W.alloc (.cells #[.int .u8 n] 5)):=by
 obtain ⟨i0,hi,hz0,hz1,hz2⟩:=info_parts Tryz.infoU8
 subst hn hg0
 obtain ⟨g,cap,cur,rfl,hBg,hg,hc,hl,ht⟩:=hown
 have hglt:=lt_of_block hg
 have hg1:(W.alloc (.cells #[.int .u8 (c.toNat:Int)] 5)).heap[g]? = some (.cells cur 5 (cur.size,cur.size + 1)):=(Below.heap_alloc _ _ _ hglt).trans hg
 have hnew:∀ j u,([Value.int .u8 (c.toNat:Int)])[j]? = some u → (W.alloc (.cells #[.int .u8 (c.toNat:Int)] 5)).cell? ((⟨W.heap.size,0,none⟩:Addr).add j) = some u:=cell_one_new _ _ _
 have hbel1:Below B w0 (W.alloc (.cells #[.int .u8 (c.toNat:Int)] 5)):=hbel.alloc hB _
 generalize hW1:W.alloc (.cells #[.int .u8 (c.toNat:Int)] 5) = W1 at *
 refine wpList_plain hgd fun K hK=>?_
 have key:∃ v' W',(Builtin.append_ #[111,111] o.type #[.slice (some ⟨g,0,none⟩) l.length cap,.slice (some ⟨W.heap.size,0,none⟩) 1 cp]).run Tryz.prog W1 = .ok v' W' ∧ (convert 111 9 v').run Tryz.prog W' = .ok (.string ⟨(l ++ [c]).toArray⟩) W' ∧ Below B w0 W':=by
  by_cases hroom:l.length + 1 ≤ cap
  ·have hi1:l.length < cur.size:=by omega
   have hcell:W1.cell? ⟨g,l.length,none⟩ = some cur[l.length]:=by simp [World.cell?,hg1,hi1]
   have hfro:W1.frozen? ⟨g,l.length,none⟩ = false:=by
    simp only [World.frozen?,hg1,Bool.and_eq_false_iff,decide_eq_false_iff_not]
    left; omega
   have hst:(store ⟨g,l.length,none⟩ (.int .u8 (c.toNat:Int))).run Tryz.prog W1 = .ok () (W1.setCell ⟨g,l.length,none⟩ (.int .u8 (c.toNat:Int))):=by
    rw [run_store Tryz.prog W1 _ _ _ (by rfl),hcell]
    simp [hfro]
   have hss:(storeCells ⟨g,l.length,none⟩ [.int .u8 (c.toNat:Int)] 0).run Tryz.prog W1 = .ok () (W1.setCell ⟨g,l.length,none⟩ (.int .u8 (c.toNat:Int))):=by
    have e:(⟨g,l.length,none⟩:Addr).add 0 = ⟨g,l.length,none⟩:=by simp [Addr.add_lit]
    simp only [storeCells,Sem.run_bind,e,hst,Result.andThen_ok]
    rfl
   have hf:=run_firstCells_some (P:=Tryz.prog) W1 i0.size 1 ⟨W.heap.size,0,none⟩ 1 cp [.int .u8 (c.toNat:Int)] (by rw [hz1]; rfl) hnew
   have hr:(Builtin.append_ #[111,111] o.type #[.slice (some ⟨g,0,none⟩) l.length cap,.slice (some ⟨W.heap.size,0,none⟩) 1 cp]).run Tryz.prog W1 = .ok (.slice (some ⟨g,0,none⟩) (l.length + 1) cap) (W1.setCell ⟨g,l.length,none⟩ (.int .u8 (c.toNat:Int))):=by
    rw [hz1] at hf
    simp [Builtin.append_,run_underlying Tryz.underlying111,sizeOf,typeInfo,hi,hz1,Builtin.lenOf,hroom,hf,Addr.add_lit,hss]
   refine ⟨_,_,hr,?_,hbel1.setCell hBg _⟩
   have hb2:(W1.setCell ⟨g,l.length,none⟩ (.int .u8 (c.toNat:Int))).heap[g]? = some (.cells (cur.setIfInBounds l.length (.int .u8 (c.toNat:Int))) 5 (cur.size,cur.size + 1)):=by
    simp [World.setCell,Array.getElem?_modify,hg1]
   have hlen2:l.length + 1 = (l ++ [c]).length:=by simp
   rw [hlen2]
   refine conv_cells _ g cap (l ++ [c]) fun j hj=>?_
   rw [cell_of_row _ _ _ _ _ _ hb2]
   by_cases hjl:j < l.length
   ·have:(cur.toList.take l.length)[j]? = (bcells l)[j]?:=by rw [ht]
    rw [List.getElem?_take_of_lt hjl] at this
    simp [bcells,List.getElem?_eq_getElem hjl] at this
    rw [List.getElem_append_left hjl,Array.getElem?_setIfInBounds_ne (by omega)]
    simpa using this
   ·have hje:j = l.length:=by simp at hj; omega
    subst hje
    simp [hi1]
  ·have holds:∀ j u,(bcells l)[j]? = some u → W1.cell? ((⟨g,0,none⟩:Addr).add j) = some u:=by
    intro j u hu
    have e:(⟨g,0,none⟩:Addr).add j = ⟨g,j,none⟩:=by simp [Addr.add_lit]
    rw [e,cell_of_row _ _ _ _ _ _ hg1]
    rw [← ht,List.getElem?_take] at hu
    split at hu
    ·simpa using hu
    ·cases hu
   have hr:=run_append_grow (P:=Tryz.prog) W1 111 o.type 5 i0 (.int .u8 0) Tryz.underlying111 hi hz0 ⟨g,0,none⟩ l.length cap (bcells l) (by rw [hz1,bcells_length]; omega) holds ⟨W.heap.size,0,none⟩ 1 cp [.int .u8 (c.toNat:Int)] (by rw [hz1]; rfl) hnew (by omega) (by omega) (by rw [hz2]; exact growslice_fits (by omega) (by omega))
   refine ⟨_,_,hr,?_,?_⟩
   ·have hlen2:l.length + 1 = (l ++ [c]).length:=by simp
    have hnb:=heap_alloc_new W1.drew (.cells ((bcells l).toArray ++ ([Value.int .u8 (c.toNat:Int)]).toArray ++ Builtin.zeroCells (Value.int .u8 0).cells (grownCap W1 (l.length + 1) cap 5 - (l.length + 1))) 5)
    have hsz:W1.drew.heap.size = W1.heap.size:=rfl
    rw [hsz] at hnb
    have hcv:=conv_cells _ W1.heap.size (grownCap W1 (l.length + 1) cap 5) (l ++ [c]) (fun j hj=>by
     rw [cell_of_row _ _ _ _ _ _ hnb]
     have hbc:(bcells l).toArray ++ ([Value.int .u8 (c.toNat:Int)]).toArray = (bcells (l ++ [c])).toArray:=by rw [bcells_append]; simp [bcells]
     rw [hbc,Array.getElem?_append_left (by simpa [bcells_length] using hj)]
     rw [List.getElem?_toArray]
     unfold bcells
     rw [List.getElem?_map,List.getElem?_eq_getElem hj]
     rfl)
    rw [← hlen2] at hcv
    exact hcv
   ·have hB1:B ≤ W1.heap.size:=Nat.le_trans hBg (Nat.le_of_lt (lt_of_block hg1))
    have hd:Below B w0 W1.drew:=⟨hbel1.os,hbel1.tape,hbel1.output,hbel1.size,hbel1.block⟩
    exact hd.alloc hB1 _
 obtain ⟨v',W',hr,hcv,hb⟩:=key
 unfold Oper.wp execOp
 simp only [ho,resolve,invoke,builtin,Sem.run_bind,Sem.run_pure,Result.andThen_ok,List.map_toArray,List.map_cons,List.map_nil,hs,hx,hr]
 exact hK _ _ (h v' W' hcv hb)
end
end Go.Proofs.YtlbpjcphhocdkaaGreat
namespace Go.Proofs.YtlbpjcphhocdkaaGreat.Prs
open Blk
def syn (u:UInt8):Bool:=decide (u.toNat = 22)
/-- What is left behind the first two SYN and those that follow. -/
def restL:List UInt8 → List UInt8
 | a::b::t=>if syn a = true ∧ syn b = true then t.dropWhile syn else restL (b::t)
 | _=>[]
theorem drop_two (l:List UInt8) (k:Nat) (h:k + 1 < l.length):l.drop k = l[k]::l[k + 1]::l.drop (k + 2):=by
 rw [List.drop_eq_getElem_cons (by omega),List.drop_eq_getElem_cons h]
theorem dw_step (l:List UInt8) (k:Nat) (h:k < l.length) (hs:l[k].toNat = 22):(l.drop k).dropWhile syn = (l.drop (k + 1)).dropWhile syn:=by
 rw [List.drop_eq_getElem_cons h,List.dropWhile_cons_of_pos (by simp [syn,hs])]
theorem dw_stop (l:List UInt8) (k:Nat) (h:k < l.length) (hs:¬ l[k].toNat = 22):(l.drop k).dropWhile syn = l.drop k:=by
 rw [List.drop_eq_getElem_cons h,List.dropWhile_cons_of_neg (by simp [syn,hs])]
theorem dw_end (l:List UInt8) (k:Nat) (h:l.length ≤ k):(l.drop k).dropWhile syn = []:=by rw [List.drop_of_length_le h]; rfl
theorem restL_hit (l:List UInt8) (k:Nat) (h:k + 1 < l.length) (h1:l[k].toNat = 22) (h2:l[k + 1].toNat = 22):restL (l.drop k) = (l.drop k).dropWhile syn:=by
 rw [dw_step l k (by omega) h1,dw_step l (k + 1) h h2,drop_two l k h]
 simp only [restL,syn,h1,h2,decide_true,and_self,if_true]
theorem restL_step (l:List UInt8) (k:Nat) (h:k + 1 < l.length) (hn:¬ (l[k].toNat = 22 ∧ l[k + 1].toNat = 22)):restL (l.drop k) = restL (l.drop (k + 1)):=by
 rw [drop_two l k h,List.drop_eq_getElem_cons h]
 simp only [restL,syn,decide_eq_true_eq]
 rw [if_neg hn]
theorem restL_end (l:List UInt8) (k:Nat) (h:l.length ≤ k + 1):restL (l.drop k) = []:=by
 have:(l.drop k).length ≤ 1:=by simp; omega
 match hl:l.drop k,this with
 | [],_=>rfl
 | [a],_=>rfl
 | a::b::t,h=>simp at h
/-- How the program cuts a part off: its text,its end,how many bytes these take. -/
def cutF (c:Bool):List UInt8 → List UInt8 × UInt8 × Nat
 | []=>([],0,0)
 | [x]=>if c = true ∧ x.toNat = 16 then ([],0,2) else if c = false ∧ isCtl x = true then ([],x,1) else ([x],0,1)
 | x::y::t =>
  if c = true ∧ x.toNat = 16 then
   if y.toNat = 16 then (y::(cutF c t).1,(cutF c t).2.1,(cutF c t).2.2 + 2) else ([],y,2)
  else if c = false ∧ isCtl x = true then ([],x,1)
  else (x::(cutF c (y::t)).1,(cutF c (y::t)).2.1,(cutF c (y::t)).2.2 + 1)
theorem cutF_ctl (x:UInt8) (t:List UInt8) (h:isCtl x = true):cutF false (x::t) = ([],x,1):=by
 cases t <;> simp [cutF,h]
theorem cutF_txt (c:Bool) (x:UInt8) (t:List UInt8) (h1:¬ (c = true ∧ x.toNat = 16)) (h2:¬ (c = false ∧ isCtl x = true)):cutF c (x::t) = (x::(cutF c t).1,(cutF c t).2.1,(cutF c t).2.2 + 1):=by
 cases t with
 | nil=>simp only [cutF,if_neg h1,if_neg h2]
 | cons y t=>rw [cutF,if_neg h1,if_neg h2]
theorem cutF_two (x y:UInt8) (t:List UInt8) (h1:x.toNat = 16) (h2:y.toNat = 16):cutF true (x::y::t) = (y::(cutF true t).1,(cutF true t).2.1,(cutF true t).2.2 + 2):=by
 rw [cutF,if_pos ⟨rfl,h1⟩,if_pos h2]
theorem cutF_out (x y:UInt8) (t:List UInt8) (h1:x.toNat = 16) (h2:¬ y.toNat = 16):cutF true (x::y::t) = ([],y,2):=by
 rw [cutF,if_pos ⟨rfl,h1⟩,if_neg h2]
theorem cutF_lone (x:UInt8) (h1:x.toNat = 16):cutF true [x] = ([],0,2):=by rw [cutF,if_pos ⟨rfl,h1⟩]
theorem cutF_plain (p:List UInt8) (e:UInt8) (post:List UInt8) (hp:hasCtl p = false) (he:isCtl e = true):cutF false (p ++ e::post) = (p,e,p.length + 1):=by
 induction p with
 | nil=>exact cutF_ctl e post he
 | cons a p ih =>
  simp only [hasCtl,List.any_cons,Bool.or_eq_false_iff] at hp
  rw [List.cons_append,cutF_txt false a _ (by simp) (by simp [hp.1]),ih hp.2]
  rfl
theorem dbl_cons (a:UInt8) (p:List UInt8):dbl (a::p) = (if a.toNat = 16 then [16,16] else [a]) ++ dbl p:=by simp [dbl]
theorem cutF_clear (p:List UInt8) (e:UInt8) (post:List UInt8) (he:¬ e.toNat = 16):cutF true (dbl p ++ 16::e::post) = (p,e,(dbl p).length + 2):=by
 induction p with
 | nil=>exact cutF_out 16 e post rfl he
 | cons a p ih =>
  by_cases h:a.toNat = 16
  ·have ea:a = 16:=UInt8.toNat_inj.1 h
   subst ea
   rw [dbl_cons,if_pos h]
   show cutF true (16::16::(dbl p ++ 16::e::post)) = _
   rw [cutF_two 16 16 _ rfl rfl,ih]
   rfl
  ·rw [dbl_cons,if_neg h]
   show cutF true (a::(dbl p ++ 16::e::post)) = _
   rw [cutF_txt true a _ (by simp [h]) (by simp),ih]
   simp only [List.length_append,List.length_cons,List.length_nil,Prod.mk.injEq,true_and]
   omega
/-- How the document's reading cuts a part off: its text,and where its end's character stands. -/
def partR (c:Bool):List UInt8 → Option (List UInt8 × Nat)
 | []=>none
 | [x]=>if c = true ∧ x.toNat = 16 then none else if c = false ∧ (x.toNat = 31 ∨ x.toNat = 23 ∨ x.toNat = 3) then some ([],0) else none
 | x::y::t =>
  if c = true ∧ x.toNat = 16 then
   if y.toNat = 16 then (partR c t).map (fun q=>(y::q.1,q.2 + 2)) else some ([],1)
  else if c = false ∧ (x.toNat = 31 ∨ x.toNat = 23 ∨ x.toNat = 3) then some ([],0)
  else (partR c (y::t)).map (fun q=>(x::q.1,q.2 + 1))
theorem partR_end (x:UInt8) (t:List UInt8) (h:x.toNat = 31 ∨ x.toNat = 23 ∨ x.toNat = 3):partR false (x::t) = some ([],0):=by
 cases t <;> simp [partR,h]
theorem partR_txt (c:Bool) (x:UInt8) (t:List UInt8) (h1:¬ (c = true ∧ x.toNat = 16)) (h2:¬ (c = false ∧ (x.toNat = 31 ∨ x.toNat = 23 ∨ x.toNat = 3))):partR c (x::t) = (partR c t).map (fun q=>(x::q.1,q.2 + 1)):=by
 cases t with
 | nil=>simp only [partR,if_neg h1,if_neg h2,Option.map_none]
 | cons y t=>rw [partR,if_neg h1,if_neg h2]
theorem partR_two (x y:UInt8) (t:List UInt8) (h1:x.toNat = 16) (h2:y.toNat = 16):partR true (x::y::t) = (partR true t).map (fun q=>(y::q.1,q.2 + 2)):=by
 rw [partR,if_pos ⟨rfl,h1⟩,if_pos h2]
theorem partR_out (x y:UInt8) (t:List UInt8) (h1:x.toNat = 16) (h2:¬ y.toNat = 16):partR true (x::y::t) = some ([],1):=by
 rw [partR,if_pos ⟨rfl,h1⟩,if_neg h2]
theorem partR_lone (x:UInt8) (h1:x.toNat = 16):partR true [x] = none:=by rw [partR,if_pos ⟨rfl,h1⟩]
theorem partR_plain (p:List UInt8) (e:UInt8) (post:List UInt8) (hp:hasCtl p = false) (he:e.toNat = 31 ∨ e.toNat = 23 ∨ e.toNat = 3):partR false (p ++ e::post) = some (p,p.length):=by
 induction p with
 | nil=>exact partR_end e post he
 | cons a p ih =>
  simp only [hasCtl,List.any_cons,Bool.or_eq_false_iff] at hp
  have h1:¬ (a.toNat = 31 ∨ a.toNat = 23 ∨ a.toNat = 3):=by
   have:=hp.1
   unfold isCtl at this
   simp only [decide_eq_false_iff_not] at this
   omega
  rw [List.cons_append,partR_txt false a _ (by simp) (by simp only [true_and]; exact h1),ih hp.2]
  rfl
theorem partR_clear (p:List UInt8) (e:UInt8) (post:List UInt8) (he:¬ e.toNat = 16):partR true (dbl p ++ 16::e::post) = some (p,(dbl p).length + 1):=by
 induction p with
 | nil=>exact partR_out 16 e post rfl he
 | cons a p ih =>
  by_cases h:a.toNat = 16
  ·have ea:a = 16:=UInt8.toNat_inj.1 h
   subst ea
   rw [dbl_cons,if_pos h]
   show partR true (16::16::(dbl p ++ 16::e::post)) = _
   rw [partR_two 16 16 _ rfl rfl,ih]
   rfl
  ·rw [dbl_cons,if_neg h]
   show partR true (a::(dbl p ++ 16::e::post)) = _
   rw [partR_txt true a _ (by simp [h]) (by simp),ih]
   simp only [List.length_append,List.length_cons,List.length_nil,Option.map_some,Option.some.injEq,Prod.mk.injEq,true_and]
   omega
/-- What stands ahead of the j-th part. -/
def pre (h:List UInt8) (ps:List (List UInt8)) (c t:Bool) (k:Int) (j:Nat):List UInt8:=if j = 0 then openL h c else bodyTo h ps c t k j
/-- The bytes r begin with this block's body. -/
structure Good (k:Int) (r:List UInt8) (h:List UInt8) (ps:List (List UInt8)) (c t:Bool) (x:List UInt8):Prop where
 ok:berr h ps c = 0
 kc:k = 0 ∨ k = 1
 eq:r = body h ps c t k ++ x
theorem sum_len {k:Int} (hk:k = 0 ∨ k = 1) (l:List UInt8):(Crc.sumS k l).length = k.toNat + 1:=by
 rcases hk with rfl | rfl <;> rfl
theorem esc_len (c t:Bool) (n j:Nat):(endL c t n j).length = (if c then 2 else 1):=by cases c <;> simp [endL]
theorem bodyTo_pre (h:List UInt8) (ps:List (List UInt8)) (c t:Bool) (k:Int) (j:Nat) :
  bodyTo h ps c t k (j + 1) = pre h ps c t k j ++ (txt c (ps.getD j []) ++ (endL c t ps.length j ++ Crc.sumS k (seg h ps c t j))):=by
 unfold pre
 by_cases hj:j = 0
 ·subst hj; simp [bodyTo,seg]
 ·simp [bodyTo,seg,hj]
theorem bodyTo_more (h:List UInt8) (ps:List (List UInt8)) (c t:Bool) (k:Int) (j m:Nat):∃ y,bodyTo h ps c t k (j + m) = bodyTo h ps c t k j ++ y:=by
 induction m with
 | zero=>exact ⟨[],by simp⟩
 | succ m ih =>
  obtain ⟨y,hy⟩:=ih
  rw [← Nat.add_assoc]
  exact ⟨y ++ _,by rw [bodyTo,hy,List.append_assoc]⟩
theorem pre_succ (h:List UInt8) (ps:List (List UInt8)) (c t:Bool) (k:Int) (j:Nat):pre h ps c t k (j + 1) = bodyTo h ps c t k (j + 1):=by unfold pre; rw [if_neg (by omega)]
theorem Good.part {k:Int} {r h:List UInt8} {ps:List (List UInt8)} {c t:Bool} {x:List UInt8} (g:Good k r h ps c t x) (j:Nat) (hj:j < ps.length) :
  ∃ y,r.drop (pre h ps c t k j).length = txt c (ps.getD j []) ++ (endL c t ps.length j ++ (Crc.sumS k (seg h ps c t j) ++ y)):=by
 obtain ⟨y,hy⟩:=bodyTo_more h ps c t k (j + 1) (ps.length - (j + 1))
 rw [show j + 1 + (ps.length - (j + 1)) = ps.length by omega,bodyTo_pre] at hy
 refine ⟨y ++ x,?_⟩
 rw [g.eq]
 unfold body
 rw [hy]
 simp only [List.append_assoc]
 exact List.drop_left
theorem Good.step {k:Int} {r h:List UInt8} {ps:List (List UInt8)} {c t:Bool} {x:List UInt8} (g:Good k r h ps c t x) (j:Nat) :
  (pre h ps c t k (j + 1)).length = (pre h ps c t k j).length + (txt c (ps.getD j [])).length + (if c then 2 else 1) + (k.toNat + 1):=by
 rw [pre_succ,bodyTo_pre]
 simp only [List.length_append,sum_len g.kc,esc_len]
 omega
theorem Good.openR {k:Int} {r h:List UInt8} {ps:List (List UInt8)} {c t:Bool} {x:List UInt8} (g:Good k r h ps c t x):∃ y,r = openL h c ++ y:=by
 obtain ⟨h1,h2,h3,h4⟩:=berr_ok g.ok
 obtain ⟨y,hy⟩:=bodyTo_more h ps c t k 1 (ps.length - 1)
 rw [show 1 + (ps.length - 1) = ps.length by omega,show (1:Nat) = 0 + 1 from rfl,bodyTo_pre] at hy
 refine ⟨(txt c (ps.getD 0 []) ++ (endL c t ps.length 0 ++ Crc.sumS k (seg h ps c t 0))) ++ y ++ x,?_⟩
 rw [g.eq]
 unfold body
 rw [hy]
 simp only [List.append_assoc,pre,if_true]
theorem headOk_no {h:List UInt8} (e:headOk h = true):hasCtl h = false:=by
 unfold headOk at e
 simp only [Bool.and_eq_true,Bool.not_eq_true'] at e
 exact e.2
/-- The head and the mark Clear,as the bytes tell them. -/
def headP (f:UInt8 → Bool) (r:List UInt8):List UInt8:=if (r.getD 0 0).toNat = 1 then (r.drop 1).takeWhile f else []
def clearP (r h:List UInt8):Bool:=decide ((r.getD (if h = [] then 0 else 1 + h.length) 0).toNat = 16)
theorem takeWhile_upto (f:UInt8 → Bool) (h:List UInt8) (e:UInt8) (y:List UInt8) (hh:∀ u ∈ h,f u = true) (he:f e = false):(h ++ e::y).takeWhile f = h:=by
 induction h with
 | nil=>simp [he]
 | cons a h ih =>
  rw [List.cons_append,List.takeWhile_cons_of_pos (hh a (by simp)),ih (fun u hu=>hh u (by simp [hu]))]
theorem Good.head {k:Int} {r h:List UInt8} {ps:List (List UInt8)} {c t:Bool} {x:List UInt8} (g:Good k r h ps c t x) (f:UInt8 → Bool) (hf:∀ u,isCtl u = false → f u = true) (h2:f 2 = false) (h16:f 16 = false) :
  headP f r = h ∧ clearP r h = c:=by
 obtain ⟨y,hy⟩:=g.openR
 have hc:=headOk_no (berr_ok g.ok).1
 subst hy
 unfold headP clearP openL
 by_cases hn:h = []
 ·subst hn
  cases c <;> simp
 ·have hall:∀ u ∈ h,f u = true:=fun u hu=>hf u (by
   unfold hasCtl at hc
   rw [List.any_eq_false] at hc
   simpa using hc u hu)
  rw [if_neg hn,if_neg hn]
  cases c
  ·refine ⟨?_,?_⟩
   ·simp only [Bool.false_eq_true,if_false,List.nil_append,List.cons_append,List.append_assoc]
    simp only [List.getD_cons_zero,show (1:UInt8).toNat = 1 from rfl,if_true,List.drop_succ_cons,List.drop_zero]
    exact takeWhile_upto f h 2 y hall h2
   ·simp [List.getD,Nat.add_comm 1 h.length]
  ·refine ⟨?_,?_⟩
   ·simp only [if_true,List.cons_append,List.nil_append,List.append_assoc]
    simp only [List.getD_cons_zero,show (1:UInt8).toNat = 1 from rfl,if_true,List.drop_succ_cons,List.drop_zero]
    exact takeWhile_upto f h 16 (2::y) hall h16
   ·simp [List.getD,Nat.add_comm 1 h.length]
theorem endC_ctl (t:Bool) (n j:Nat):isCtl (endC t n j) = true ∧ ((endC t n j).toNat = 31 ∨ (endC t n j).toNat = 23 ∨ (endC t n j).toNat = 3) ∧ ¬ (endC t n j).toNat = 16:=by
 unfold endC
 split
 ·decide
 ·cases t <;> decide
theorem endC_mid' (t:Bool) (n j:Nat) (h:j + 1 < n):(endC t n j).toNat = 31:=by simp [endC,h]
theorem endC_end' (t:Bool) (n j:Nat) (h:¬ j + 1 < n):¬ (endC t n j).toNat = 31 ∧ ((endC t n j).toNat = 3 ↔ t = true):=by
 cases t <;> simp [endC,h]
theorem part_plain {k:Int} {r h:List UInt8} {ps:List (List UInt8)} {t:Bool} {x:List UInt8} {c:Bool} (g:Good k r h ps c t x) (j:Nat) (hj:j < ps.length) (hc:c = false):hasCtl (ps.getD j []) = false:=by
 have h4:=(berr_ok g.ok).2.2.2
 have:=List.all_eq_true.1 h4 ps[j] (List.getElem_mem hj)
 unfold partOk at this
 subst hc
 simp only [Bool.and_eq_true,Bool.false_or,Bool.not_eq_true'] at this
 simpa [List.getD,List.getElem?_eq_getElem hj] using this.2
/-- What each way of cutting finds of a good block's part. -/
theorem Good.cut {k:Int} {r h:List UInt8} {ps:List (List UInt8)} {c t:Bool} {x:List UInt8} (g:Good k r h ps c t x) (j:Nat) (hj:j < ps.length) :
  cutF c (r.drop (pre h ps c t k j).length) = (ps.getD j [],endC t ps.length j,(txt c (ps.getD j [])).length + (if c then 2 else 1)):=by
 obtain ⟨y,hy⟩:=g.part j hj
 rw [hy]
 have he:=endC_ctl t ps.length j
 cases hc:c
 ·subst hc
  simp only [txt,endL,Bool.false_eq_true,if_false,List.nil_append,List.cons_append]
  exact cutF_plain _ _ _ (part_plain g j hj rfl) he.1
 ·subst hc
  simp only [txt,endL,if_true,List.nil_append,List.cons_append]
  exact cutF_clear _ _ _ he.2.2
theorem Good.cutR {k:Int} {r h:List UInt8} {ps:List (List UInt8)} {c t:Bool} {x:List UInt8} (g:Good k r h ps c t x) (j:Nat) (hj:j < ps.length) :
  partR c (r.drop (pre h ps c t k j).length) = some (ps.getD j [],(txt c (ps.getD j [])).length + (if c then 1 else 0)) ∧
  r.getD ((pre h ps c t k j).length + ((txt c (ps.getD j [])).length + (if c then 1 else 0))) 0 = endC t ps.length j:=by
 obtain ⟨y,hy⟩:=g.part j hj
 have he:=endC_ctl t ps.length j
 have hget:∀ m,r.getD ((pre h ps c t k j).length + m) 0 = (r.drop (pre h ps c t k j).length).getD m 0:=by
  intro m
  simp [List.getD,List.getElem?_drop]
 rw [hget,hy]
 cases hc:c
 ·subst hc
  simp only [txt,endL,Bool.false_eq_true,if_false,List.nil_append,List.cons_append,Nat.add_zero]
  exact ⟨partR_plain _ _ _ (part_plain g j hj rfl) he.2.1,by simp [List.getD]⟩
 ·subst hc
  simp only [txt,endL,if_true,List.nil_append,List.cons_append]
  refine ⟨partR_clear _ _ _ he.2.2,by simp [List.getD]⟩
/-- Bytes begin with one block at most. -/
theorem Good.one {k:Int} {r h h':List UInt8} {ps ps':List (List UInt8)} {c c' t t':Bool} {x x':List UInt8} (g:Good k r h ps c t x) (g':Good k r h' ps' c' t' x') :
  h = h' ∧ ps = ps' ∧ c = c' ∧ t = t' ∧ x = x':=by
 have hf:∀ u,isCtl u = false → (fun u=>!isCtl u) u = true:=by intro u hu; simp [hu]
 have a:=g.head (fun u=>!isCtl u) hf rfl rfl
 have a':=g'.head (fun u=>!isCtl u) hf rfl rfl
 have eh:h = h':=a.1.symm.trans a'.1
 subst eh
 have ec:c = c':=a.2.symm.trans a'.2
 subst ec
 have n1:=(berr_ok g.ok).2.1
 have n1':=(berr_ok g'.ok).2.1
 have key:∀ j,j ≤ ps.length → j ≤ ps'.length → (pre h ps c t k j).length = (pre h ps' c t' k j).length ∧ ps.take j = ps'.take j:=by
  intro j
  induction j with
  | zero=>intro _ _; exact ⟨by simp [pre],rfl⟩
  | succ j ih =>
   intro h1 h2
   obtain ⟨e1,e2⟩:=ih (by omega) (by omega)
   have b:=g.cut j (by omega)
   have b':=g'.cut j (by omega)
   rw [e1] at b
   have b2:=b.symm.trans b'
   have e3:ps.getD j [] = ps'.getD j []:=(Prod.mk.inj b2).1
   refine ⟨by rw [g.step j,g'.step j,e1,e3],?_⟩
   rw [List.take_succ_eq_append_getElem (by omega),List.take_succ_eq_append_getElem (by omega),e2]
   simp [List.getD,List.getElem?_eq_getElem (show j < ps.length by omega),List.getElem?_eq_getElem (show j < ps'.length by omega)] at e3
   rw [e3]
 have ends:∀ j,j < ps.length → j < ps'.length → endC t ps.length j = endC t' ps'.length j:=by
  intro j h1 h2
  have b:=g.cut j h1
  have b':=g'.cut j h2
  rw [(key j (by omega) (by omega)).1] at b
  exact (Prod.mk.inj (Prod.mk.inj (b.symm.trans b')).2).1
 have hlen:ps.length = ps'.length:=by
  rcases Nat.lt_trichotomy ps.length ps'.length with hl | hl | hl
  ·have e:=ends (ps.length - 1) (by omega) (by omega)
   have m:=endC_mid' t' ps'.length (ps.length - 1) (by omega)
   have q:=(endC_end' t ps.length (ps.length - 1) (by omega)).1
   rw [e] at q; exact absurd m q
  ·exact hl
  ·have e:=ends (ps'.length - 1) (by omega) (by omega)
   have m:=endC_mid' t ps.length (ps'.length - 1) (by omega)
   have q:=(endC_end' t' ps'.length (ps'.length - 1) (by omega)).1
   rw [← e] at q; exact absurd m q
 have eps:ps = ps':=by
  have:=(key ps.length (by omega) (by omega)).2
  rw [List.take_length,hlen,List.take_length] at this
  exact this
 subst eps
 have et:t = t':=by
  have e:=ends (ps.length - 1) (by omega) (by omega)
  have q:=(endC_end' t ps.length (ps.length - 1) (by omega)).2
  have q':=(endC_end' t' ps.length (ps.length - 1) (by omega)).2
  rw [e] at q
  have:t = true ↔ t' = true:=q.symm.trans q'
  cases t <;> cases t' <;> simp_all
 subst et
 refine ⟨rfl,rfl,rfl,rfl,?_⟩
 have:=g.eq.symm.trans g'.eq
 exact List.append_cancel_left this
end Go.Proofs.YtlbpjcphhocdkaaGreat.Prs
namespace Go.Proofs.YtlbpjcphhocdkaaGreat
/-- Does it begin as a block? -/
def begins (r:List UInt8):Bool:=decide ((r.getD 0 0).toNat = 1 ∨ (r.getD 0 0).toNat = 2 ∨ ((r.getD 0 0).toNat = 16 ∧ (r.getD 1 0).toNat = 2))
/-- The body of P4 for a kind; empty where there is none. -/
def sbody (k:Int):List UInt8 :=
 if k = 3 then [4,5] else if k = 4 then [5] else if k = 5 then [4] else if k = 6 then [21]
 else if k = 7 then [16,48] else if k = 8 then [16,49] else if k = 9 then [16,59] else []
/-- Which kind the bytes are,of those that carry no block. -/
def SKind (r:List UInt8) (n:Nat):Prop:=(3 ≤ n ∧ n ≤ 9 ∧ r = sbody n ++ [255]) ∨ (n = 0 ∧ ∀ k:Nat,3 ≤ k → k ≤ 9 → r ≠ sbody k ++ [255])
theorem sbody_inj:∀ m n:Nat,3 ≤ m → m ≤ 9 → 3 ≤ n → n ≤ 9 → sbody m ++ [255] = sbody n ++ [255] → m = n:=by
 have key:∀ m n:Fin 10,3 ≤ m.val → 3 ≤ n.val → sbody m.val ++ [255] = sbody n.val ++ [255] → m.val = n.val:=by decide
 intro m n h1 h2 h3 h4 h
 exact key ⟨m,by omega⟩ ⟨n,by omega⟩ h1 h3 h
theorem SKind.one {r:List UInt8} {m n:Nat} (h:SKind r m) (k:SKind r n):m = n:=by
 rcases h with ⟨a1,a2,a3⟩ | ⟨a1,a2⟩ <;> rcases k with ⟨b1,b2,b3⟩ | ⟨b1,b2⟩
 ·exact sbody_inj m n a1 a2 b1 b2 (a3.symm.trans b3)
 ·exact absurd a3 (b2 m a1 a2)
 ·exact absurd b3 (a2 n b1 b2)
 ·omega
inductive Ans where
 | data (h:List UInt8) (ps:List (List UInt8)) (c t:Bool)
 | none (n:Nat)
def ReadsAs (kk:Int) (l:List UInt8):Ans → Prop
 | .data h ps c t=>begins (Prs.restL l) = true ∧ Prs.Good kk (Prs.restL l) h ps c t [255]
 | .none n=>(begins (Prs.restL l) = true ∧ n = 1 ∧ ∀ h0 ps0 c0 t0,¬ Prs.Good kk (Prs.restL l) h0 ps0 c0 t0 [255]) ∨ (begins (Prs.restL l) = false ∧ SKind (Prs.restL l) n)
theorem ReadsAs.one {kk:Int} {l:List UInt8} {A B:Ans} (h:ReadsAs kk l A) (k:ReadsAs kk l B):A = B:=by
 cases A with
 | data h1 ps1 c1 t1 =>
  cases B with
  | data h2 ps2 c2 t2 =>
   obtain ⟨a1,a2⟩:=h
   obtain ⟨b1,b2⟩:=k
   obtain ⟨rfl,rfl,rfl,rfl,_⟩:=a2.one b2
   rfl
  | none n =>
   obtain ⟨a1,a2⟩:=h
   rcases k with ⟨_,_,k⟩ | ⟨k,_⟩
   ·exact absurd a2 (k _ _ _ _)
   ·rw [a1] at k; cases k
 | none m =>
  cases B with
  | data h2 ps2 c2 t2 =>
   obtain ⟨b1,b2⟩:=k
   rcases h with ⟨_,_,h⟩ | ⟨h,_⟩
   ·exact absurd b2 (h _ _ _ _)
   ·rw [b1] at h; cases h
  | none n =>
   rcases h with ⟨a0,rfl,_⟩ | ⟨a0,a1⟩ <;> rcases k with ⟨b0,rfl,_⟩ | ⟨b0,b1⟩
   ·rfl
   ·rw [a0] at b0; cases b0
   ·rw [a0] at b0; cases b0
   ·rw [a1.one b1]
end Go.Proofs.YtlbpjcphhocdkaaGreat
namespace Go.Proofs.YtlbpjcphhocdkaaGreat
open Go.RowKit
theorem shortBody_any (k:Int) (w:World) :
  Calls Tryz.prog 41 #[.int .i64 k] w fun e w'=>e = .returned (.string ⟨(sbody k).toArray⟩) ∧ Below w.heap.size w w':=by
 have c1:=conv_lit1
 have c2:=conv_lit2
 go_enter Tryz.func41,Tryz.ntmps41
 go_wp2
 all_goals go_ret
 all_goals refine ⟨?_,by first | exact Below.refl _ _ | exact (Below.refl _ _).alloc (Nat.le_refl _) _⟩
 all_goals (simp only [beq_iff_eq,beq_eq_false_iff_ne,ne_eq] at *)
 all_goals simp [sbody, *]
 all_goals rfl
theorem padded_any (s:ByteArray) (w:World) (hs:s.size ≤ 140737488352000) :
  Calls Tryz.prog 70 #[.string s] w fun e w'=>e = .returned (.string ⟨(s.data.toList ++ [255]).toArray⟩) ∧ Below w.heap.size w w':=by
 have hl:=cnv_new w w.heap.size s (Nat.le_refl _)
 have kc:=cnv_run w s
 have hb0:=cnv_below w s
 have hz:=Go.Lib.bytesWorld_size w 5 s
 have hz2:s.data.toList.length = s.size:=by simp
 generalize Go.Lib.bytesWorld w 5 s = W0 at *
 generalize grownCap w s.size 0 5 = cp at *
 go_enter Tryz.func70,Tryz.ntmps70
 go_wp2_with (first | (at_builtin; refine app_cnv _ 255 255 (by rfl) rfl (.tmp 6) (.tmp 7) rfl w.heap.size _ _ _ 1 rfl rfl (by first | rfl | omega) hl (by omega) w hb0 (by omega) ?_; intro v2 W2 hcv hbel2))
 go_ret
 exact ⟨rfl,by assumption⟩
theorem pad_size (s:ByteArray):(⟨(s.data.toList ++ [255]).toArray⟩:ByteArray).size = s.size + 1:=by
 show (s.data.toList ++ [255]).toArray.size = s.data.size + 1
 rw [List.size_toArray,List.length_append,Array.length_toList]
 rfl
theorem pad_wrap (s:ByteArray):[22,22] ++ (⟨(s.data.toList ++ [255]).toArray⟩:ByteArray).data.toList = [22,22] ++ s.data.toList ++ [255]:=by simp
theorem transmission_any (s:ByteArray) (w:World) (hs:s.size ≤ 140737488352000) :
  Calls Tryz.prog 42 #[.string s] w fun e w'=>e = .returned (.string ⟨([22,22] ++ s.data.toList ++ [255]).toArray⟩) ∧ Below w.heap.size w w':=by
 have hl:=ownB_lit w w.heap.size #[.int .u8 22,.int .u8 22] [22,22] rfl (Nat.le_refl _) (by decide)
 have hb0:Below w.heap.size w (w.alloc (.cells #[.int .u8 22,.int .u8 22] 5)):=(Below.refl _ _).alloc (Nat.le_refl _) _
 have HP:=hide (pad_wrap s)
 have hz2:(⟨(s.data.toList ++ [255]).toArray⟩:ByteArray).size = s.size + 1:=pad_size s
 rw [← HP.out]
 generalize hr:(⟨(s.data.toList ++ [255]).toArray⟩:ByteArray) = r at *
 have HR:=hide hr
 clear hr
 go_enter Tryz.func42,Tryz.ntmps42
 go_wp2_with (first | (go_at_call 70; refine (padded_any s _ hs).mono ?_; rintro e w1 ⟨rfl,hb1⟩; rw [HR.out]; have hl1:=OwnB.below hl hb1 (by simp)) | (at_builtin; refine app_str _ rfl (.tmp 8) (.tmp 9) rfl w.heap.size _ [22,22] r rfl rfl hl1 (by simp; omega) w (below_step hb0 hb1) (by have:=hb1.size; simp at this; omega) ?_; intro v2 W2 hown2 hbel2 hB2; have c:=conv_own _ _ _ _ hown2))
 go_ret
 exact ⟨rfl,by assumption⟩
/-- P4: the transmission of a kind,and the error. -/
def shortS (k:Int):List UInt8:=if sbody k = [] then [] else [22,22] ++ sbody k ++ [255]
def shortE (k:Int):Int:=if sbody k = [] then 5 else 0
theorem sbody_size (k:Int):(sbody k).length ≤ 2:=by unfold sbody; (repeat' split) <;> simp
theorem short_any (k:Int) (w:World) :
  Calls Tryz.prog 21 #[.int .i64 k] w fun e w'=>e = .returned (.tuple #[.string ⟨(shortS k).toArray⟩,.int .i64 (shortE k)]) ∧ Below w.heap.size w w':=by
 have hz:=sbody_size k
 cases hb:sbody k with
 | nil =>
  have e1:shortS k = []:=by simp [shortS,hb]
  have e2:shortE k = 5:=by simp [shortE,hb]
  rw [e1,e2]
  go_enter Tryz.func21,Tryz.ntmps21
  go_wp2_with (first | (go_at_call 41; refine (shortBody_any k _).mono ?_; rintro e w1 ⟨rfl,hb1⟩))
  go_ret2
  exact ⟨rfl,by assumption⟩
 | cons c l =>
  have e1:shortS k = [22,22] ++ (c::l) ++ [255]:=by simp [shortS,hb]
  have e2:shortE k = 0:=by simp [shortE,hb]
  rw [e1,e2]
  rw [hb] at hz
  go_enter Tryz.func21,Tryz.ntmps21
  go_wp2_with (first | (go_at_call 41; refine (shortBody_any k _).mono ?_; rintro e w1 ⟨rfl,hb1⟩) | (go_at_call 42; refine (transmission_any _ _ ?_).mono ?_; (simp [ByteArray.size] at *; omega); rintro e w2 ⟨rfl,hb2⟩))
  go_ret2
  exact ⟨rfl,(by assumption:Below w.heap.size w _).trans (Below.mono (by assumption) (Below.size (by assumption)))⟩
theorem endCharacter_any (h:ByteArray) (a:Option Addr) (n cap:Nat) (c t:Bool) (i:Nat) (w:World) (hn:n ≤ 1000000000) (_hi:i ≤ 1000000000) :
  Calls Tryz.prog 115 #[.agg #[.string h,.slice a n cap,.bool c,.bool t],.int .i64 i] w fun e w'=>e = .returned (.int .u8 (Blk.endC t n i).toNat) ∧ Below w.heap.size w w':=by
 by_cases hlt:i + 1 < n
 ·have HE:Hid (Blk.endC t n i = 31):=by simp [Hid,Blk.endC,hlt]
  have hlt':(i:Int) < (n:Int) - 1:=by omega
  go_enter Tryz.func115,Tryz.ntmps115
  go_wp2
  go_ret
  exact ⟨by rw [HE.out]; rfl,(Below.refl _ _).alloc (Nat.le_refl _) _⟩
 ·have hlt':¬ (i:Int) < (n:Int) - 1:=by omega
  cases t
  ·have HE:Hid (Blk.endC false n i = 23):=by simp [Hid,Blk.endC,hlt]
   go_enter Tryz.func115,Tryz.ntmps115
   go_wp2
   go_ret
   exact ⟨by rw [HE.out]; rfl,(Below.refl _ _).alloc (Nat.le_refl _) _⟩
  ·have HE:Hid (Blk.endC true n i = 3):=by simp [Hid,Blk.endC,hlt]
   go_enter Tryz.func115,Tryz.ntmps115
   go_wp2
   go_ret
   exact ⟨by rw [HE.out]; rfl,(Below.refl _ _).alloc (Nat.le_refl _) _⟩
theorem strOfNums_one (u:UInt8):strOfNums [(u.toNat:Int)] = ⟨#[u]⟩:=by simp [strOfNums]
theorem strOfNums_two (u:UInt8):strOfNums [16,(u.toNat:Int)] = ⟨#[16,u]⟩:=by simp [strOfNums]
theorem ending_any (h:ByteArray) (a:Option Addr) (n cap:Nat) (c t:Bool) (i:Nat) (w:World) (hn:n ≤ 1000000000) (hi:i ≤ 1000000000) :
  Calls Tryz.prog 96 #[.agg #[.string h,.slice a n cap,.bool c,.bool t],.int .i64 i] w fun e w'=>e = .returned (.string ⟨(Blk.endL c t n i).toArray⟩) ∧ Below w.heap.size w w':=by
 have c1:=conv_lit1
 have c2:=conv_lit2
 have HBK:=hide (BlkAt.new w (.string h) (.slice a n cap) (.bool c) (.bool t))
 cases c
 ·have HE:Hid (Blk.endL false t n i = [Blk.endC t n i]):=by simp [Hid,Blk.endL]
  generalize hu:Blk.endC t n i = u at *
  have HU:=hide hu
  clear hu
  go_enter Tryz.func96,Tryz.ntmps96
  go_wp2_with (first | (go_at_call 115; refine (endCharacter_any h a n cap false t i _ hn hi).mono ?_; rintro e w1 ⟨rfl,hb1⟩; rw [HU.out]; have d2:=(HBK.out.below hb1 (by simp)).cell2))
  go_ret
  refine ⟨by rw [HE.out]; exact congrArg (fun s=>Ending.returned (Value.string s)) (strOfNums_one u),?_⟩
  exact (((Below.refl _ _).alloc (Nat.le_refl _) _).trans (hb1.mono (by simp))).alloc (by have:=hb1.size; simp at this; omega) _
 ·have HE:Hid (Blk.endL true t n i = [16,Blk.endC t n i]):=by simp [Hid,Blk.endL]
  generalize hu:Blk.endC t n i = u at *
  have HU:=hide hu
  clear hu
  go_enter Tryz.func96,Tryz.ntmps96
  go_wp2_with (first | (go_at_call 115; refine (endCharacter_any h a n cap true t i _ hn hi).mono ?_; rintro e w1 ⟨rfl,hb1⟩; rw [HU.out]; have d2:=(HBK.out.below hb1 (by simp)).cell2))
  go_ret
  refine ⟨by rw [HE.out]; exact congrArg (fun s=>Ending.returned (Value.string s)) (strOfNums_two u),?_⟩
  exact (((Below.refl _ _).alloc (Nat.le_refl _) _).trans (hb1.mono (by simp))).alloc (by have:=hb1.size; simp at this; omega) _
theorem ba_append (a b:List UInt8):(⟨a.toArray⟩:ByteArray) ++ ⟨b.toArray⟩ = ⟨(a ++ b).toArray⟩:=by
 apply ByteArray.ext
 simp [ByteArray.data_append]
theorem below_drew_head {w w':World} (h:Below w.drew.heap.size w.drew w'):Below w.heap.size w w':=⟨h.os,h.tape,h.output,h.size,h.block⟩
/-- A string that is told by its bytes. -/
def Is (s:ByteArray) (l:List UInt8):Prop:=s = ⟨l.toArray⟩
theorem Is.mk (l:List UInt8):Is ⟨l.toArray⟩ l:=rfl
theorem Is.size {s:ByteArray} {l:List UInt8} (h:Is s l):s.size = l.length:=by subst h; rfl
theorem Is.data {s:ByteArray} {l:List UInt8} (h:Is s l):s.data.toList = l:=by subst h; rfl
theorem Is.append {s r:ByteArray} {l m:List UInt8} (h:Is s l) (k:Is r m):Is (s ++ r) (l ++ m):=by subst h; subst k; exact ba_append l m
theorem Is.self (s:ByteArray):Is s s.data.toList:=by unfold Is; cases s; simp
theorem cov_len (h:List UInt8) (c:Bool) (j:Nat) (hh:h.length ≤ 8):(if j = 0 then Blk.openL h c else []).length ≤ 100:=by
 have:=Blk.openL_length h c
 split
 ·omega
 ·simp
theorem written_is (s:ByteArray) (c:Bool) (w:World) (hs:s.size ≤ 32) :
  Calls Tryz.prog 95 #[.string s,.bool c] w fun e w'=>∃ r,e = .returned (.string r) ∧ Hid (Is r (Blk.txt c s.data.toList)) ∧ r.size ≤ 64 ∧ Below w.heap.size w w' :=
 (written_any s c w (by omega)).mono fun e w' ⟨he,hb⟩=>⟨_,he,Is.mk _,by rw [(Is.mk _).size]; have:=Blk.txt_length c s.data.toList; rw [size_list] at this; omega,hb⟩
theorem ending_is (h:ByteArray) (a:Option Addr) (n cap:Nat) (c t:Bool) (i:Nat) (w:World) (hn:n ≤ 1000000000) (hi:i ≤ 1000000000) :
  Calls Tryz.prog 96 #[.agg #[.string h,.slice a n cap,.bool c,.bool t],.int .i64 i] w fun e w'=>∃ r,e = .returned (.string r) ∧ Hid (Is r (Blk.endL c t n i)) ∧ r.size ≤ 2 ∧ Below w.heap.size w w' :=
 (ending_any h a n cap c t i w hn hi).mono fun e w' ⟨he,hb⟩=>⟨_,he,Is.mk _,by rw [(Is.mk _).size]; exact Blk.endL_length c t n i,hb⟩
theorem checkBytes_is (s:ByteArray) (c:Int) (w:World) (hs:s.size ≤ 140737488352000) (hc:c = 0 ∨ c = 1) :
  Calls Tryz.prog 68 #[.string s,.int .i64 c] w fun e w'=>∃ r,e = .returned (.string r) ∧ Hid (Is r (Crc.sumS c s.data.toList)) ∧ r.size ≤ 2 ∧ Below w.heap.size w w' :=
 (checkBytes_any s c w hs hc).mono fun e w' ⟨he,hb⟩=>⟨_,he,Is.mk _,by rw [(Is.mk _).size]; exact Blk.sumS_length c _,hb⟩
theorem body_step {h:List UInt8} {ps:List (List UInt8)} {c t:Bool} {k:Int} {j:Nat} {xs ys r2 r3 r4 st:ByteArray}
  (hx:Is xs (Blk.bodyTo h ps c t k j)) (hy:Is ys (if j = 0 then Blk.openL h c else [])) (hst:ps.getD j [] = st.data.toList) (h2:Is r2 (Blk.txt c st.data.toList))
  (h3:Is r3 (Blk.endL c t ps.length j)) (h4:Is r4 (Crc.sumS k (ys ++ r2 ++ r3).data.toList)) :
  Is (xs ++ (ys ++ r2 ++ r3) ++ r4) (Blk.bodyTo h ps c t k (j + 1)):=by
 have hs:Is (ys ++ r2 ++ r3) (Blk.seg h ps c t j):=by
  have:=(hy.append h2).append h3
  unfold Blk.seg
  rw [hst,← List.append_assoc]
  exact this
 rw [hs.data] at h4
 have:=(hx.append hs).append h4
 unfold Blk.bodyTo
 rw [← List.append_assoc]
 exact this
theorem blockBody_any (h:ByteArray) (b o:Nat) (l:List ByteArray) (cap:Nat) (c t:Bool) (k:Int) (w:World)
  (hk:k = 0 ∨ k = 1) (hh:h.size ≤ 8) (hl:∀ i,(l.getD i ByteArray.empty).size ≤ 32) (hn:l.length ≤ 4)
  (ht:∀ i,i < l.length → w.cell? ⟨b,o + i,none⟩ = some (.string (l.getD i ByteArray.empty))) :
  Calls Tryz.prog 72 #[.agg #[.string h,.slice (some ⟨b,o,none⟩) l.length cap,.bool c,.bool t],.int .i64 k] w fun e w'=>e = .returned (.string ⟨(Blk.body h.data.toList (datas l) c t k).toArray⟩) ∧ Below w.heap.size w w':=by
 have HBK:=hide (BlkAt.new w (.string h) (.slice (some ⟨b,o,none⟩) l.length cap) (.bool c) (.bool t))
 have HT:=hide ht
 have HL:=hide hl
 have HK:=hide hk
 have HBL:=hide (Blk.bodyTo_length h.data.toList (datas l) c t k 32 (fun i=>by rw [datas_getD,size_list]; exact hl i))
 rw [size_list] at HBL
 clear ht hl hk
 go_enter Tryz.func72,Tryz.ntmps72
 go_wp2_with (first | (go_at_call 94; refine (opening_any h _ _ _ c t _ (by omega)).mono ?_; rintro e w1 ⟨rfl,hb1⟩))
 go_loopw [5,6,7] (fun x y i wr=>∃ (j:Nat) (xs ys:ByteArray),j ≤ l.length ∧ i = .int .i64 j ∧ x = .string xs ∧ y = .string ys ∧ Hid (Is xs (Blk.bodyTo h.data.toList (datas l) c t k j)) ∧ Hid (Is ys (if j = 0 then Blk.openL h.data.toList c else [])) ∧ BlkAt wr w.heap.size (.string h) (.slice (some ⟨b,o,none⟩) l.length cap) (.bool c) (.bool t) ∧ Below w.heap.size w wr) (fun _ _ i _=>l.length - (intOf i).toNat)
 case atStart=>exact ⟨0,_,_,by omega,rfl,rfl,rfl,Is.mk _,Is.mk _,HBK.out.below hb1 (by simp),below_step ((Below.refl _ _).alloc (Nat.le_refl _) _) hb1⟩
 case round =>
  obtain ⟨j,xs,ys,hj,rfl,rfl,rfl,HX,HY,hblk,hbel⟩:=hrel
  by_cases hlt:j < l.length
  ·have hcl:=HT.out j hlt
   have hbb:=World.block_lt_of_cell? w _ hcl
   rw [← hbel.cell hbb] at hcl
   have hg:=HL.out j
   have e1:=hblk.cell1
   have e2:=hblk.cell2
   have hlt':(j:Int) < (l.length:Int):=by omega
   generalize hst:l.getD j ByteArray.empty = st at *
   have HST:=hide hst
   clear hst
   have hys:ys.size ≤ 100:=by rw [HY.out.size]; exact cov_len _ c j (by rw [size_list]; exact hh)
   have hxs:xs.size ≤ 1000:=by
    rw [HX.out.size]
    have h1:=HBL.out j
    have h2:j * (h.size + 2 * 32 + 7) ≤ 4 * (8 + 2 * 32 + 7):=Nat.mul_le_mul (by omega) (by omega)
    omega
   have hj0:(0:Int) ≤ (j:Int):=by omega
   have hadd:∀ (W:World) (r:ByteArray),r.size ≤ 64 → (Op.stringOp .add ys r).run Tryz.prog W = .ok (.string (ys ++ r)) W:=fun W r hr=>run_string_add_sum W ys r (by omega)
   go_wp2_with fail
   go_region_held3 (fun w'=>w'.cell? ⟨w.heap.size,1,none⟩ = some (.slice (some ⟨b,o,none⟩) l.length cap) ∧ w'.cell? ⟨w.heap.size,2,none⟩ = some (.bool c) ∧ w'.cell? ⟨b,o + j,none⟩ = some (.string st)) (first | go_keep | exact ⟨cell_later hb2 (by exact e1),cell_later hb2 (by exact e2),cell_later hb2 (by exact hcl)⟩)
    (first | (go_at_call 95; refine (written_is _ c _ ?_).mono ?_; (omega); rintro e w2 ⟨r2,rfl,HR2,hr2,hb2⟩))
   have hb2:=below_drew_head hb2
   have hblk2:BlkAt w2 w.heap.size (.string h) (.slice (some ⟨b,o,none⟩) l.length cap) (.bool c) (.bool t):=hblk.below hb2 (by have:=(lt_of_block hblk); exact this)
   have hbel2:Below w.heap.size w w2:=below_step hbel hb2
   have f0:=hblk2.cell0
   have f1:=hblk2.cell1
   have f2:=hblk2.cell2
   have f3:=hblk2.cell3
   clear hcl e1 e2 hadd hb2 hblk hbel
   go_wp2_with (first | (go_at_call 96; refine (ending_is h _ _ cap c t j _ (by omega) (by omega)).mono ?_; rintro e w3 ⟨r3,rfl,HR3,hr3,hb3⟩) | (go_at_call 68; refine (checkBytes_is _ k _ ?_ HK.out).mono ?_; (simp; omega); rintro e w4 ⟨r4,rfl,HR4,hr4,hb4⟩))
   go_roundw
   case rel=>exact ⟨j + 1,_,_,by omega,by go_num,rfl,rfl,body_step HX.out HY.out (by rw [datas_getD,HST.out]) HR2.out (by rw [datas_length]; exact HR3.out) HR4.out,rfl,(hblk2.below hb3 (lt_of_block hblk2)).below hb4 (lt_of_block (hblk2.below hb3 (lt_of_block hblk2))),below_step (below_step hbel2 hb3) hb4⟩
   case measure=>simp [intOf]; omega
  ·obtain rfl:j = l.length:=by omega
   have e1:=hblk.cell1
   have hlt':¬ (l.length:Int) < (l.length:Int):=by omega
   go_wp2
   go_ret
   exact ⟨by rw [HX.out]; unfold Blk.body; rw [datas_length]; rfl,hbel⟩
theorem getD_le {l:List ByteArray} {n:Nat} (h:∀ i,((datas l).getD i []).length ≤ n) (i:Nat):(l.getD i ByteArray.empty).size ≤ n:=by
 have:=h i
 rw [datas_getD,size_list] at this
 exact this
theorem encode_any (h:ByteArray) (a:Option Addr) (l:List ByteArray) (cap:Nat) (c t:Bool) (k:Int) (w:World)
  (hh:h.size ≤ 140737488352000) (hl:∀ s ∈ l,s.size ≤ 140737488352000) (hn:l.length ≤ 140737488352000) (ht:Texts w a l) :
  Calls Tryz.prog 45 #[.agg #[.string h,.slice a l.length cap,.bool c,.bool t],.int .i64 k] w fun e w'=>e = .returned (.tuple #[.string ⟨(Blk.encS h.data.toList (datas l) c t k).toArray⟩,.int .i64 (Blk.encE h.data.toList (datas l) c k)]) ∧ Below w.heap.size w w':=by
 have HBK:=hide (BlkAt.new w (.string h) (.slice a l.length cap) (.bool c) (.bool t))
 have hbel0:Below w.heap.size w (w.alloc (.cells #[.string h,.slice a l.length cap,.bool c,.bool t] 57)):=(Below.refl _ _).alloc (Nat.le_refl _) _
 have HB0:=hide hbel0
 have ht1:=ht.below hbel0
 clear hbel0
 by_cases hk:k = 0 ∨ k = 1
 ·have hd:Hid (decide (k = 0 ∨ k = 1) = true):=by simp [Hid,hk]
  have HK:=hide hk
  have hE:Blk.encE h.data.toList (datas l) c k = Blk.berr h.data.toList (datas l) c:=by simp [Blk.encE,hk]
  clear hk
  by_cases hz:Blk.berr h.data.toList (datas l) c = 0
  ·have HS:Hid (Blk.encS h.data.toList (datas l) c t k = [22,22] ++ Blk.body h.data.toList (datas l) c t k ++ [255]):=by simp [Hid,Blk.encS,hE,hz]
   obtain ⟨g1,g2,g3,g4⟩:=Blk.berr_ok hz
   have G1:=Blk.headOk_le g1
   rw [size_list] at G1
   rw [datas_length] at g2 g3
   have G4:=hide (getD_le (Blk.parts_le g4))
   have HBL:=hide (Blk.bodyTo_length h.data.toList (datas l) c t k 32 (Blk.parts_le g4) (datas l).length)
   rw [datas_length,size_list] at HBL
   obtain ⟨b,o,rfl,hcell⟩:∃ b o,a = some ⟨b,o,none⟩ ∧ ∀ i,i < l.length → w.cell? ⟨b,o + i,none⟩ = some (.string (l.getD i ByteArray.empty)):=by
    rcases ht with h | h
    ·subst h; simp at g2
    ·exact h
   have HC:=hide hcell
   clear hcell g1 g4 ht
   rw [HS.out,hE,hz]
   have HZ:=hide hz
   clear hE hz HS
   have HTX:=hide ht1
   have HLL:=hide hl
   clear ht1 hl
   go_enter Tryz.func45,Tryz.ntmps45
   go_wp2_with (first | (go_at_call 67; refine (isCheck_any k _).mono ?_; rintro e w1 ⟨rfl,rfl⟩; rw [hd.out]) | (go_at_call 71; refine (blockError_any h _ l cap c t _ hh HLL.out hn HTX.out).mono ?_; rintro e w2 ⟨rfl,hb2⟩; rw [HZ.out]; have f0:=(HBK.out.below hb2 (by simp)).cell0; have f1:=(HBK.out.below hb2 (by simp)).cell1; have f2:=(HBK.out.below hb2 (by simp)).cell2; have f3:=(HBK.out.below hb2 (by simp)).cell3))
   refine (blockBody_any h b o l cap c t k _ HK.out G1 G4.out (by omega) ?_).mono ?_
   ·intro i hi
    exact cell_later (below_step HB0.out hb2) (HC.out i hi)
   rintro e w3 ⟨rfl,hb3⟩
   go_wp2_with (first | (go_at_call 42; refine (transmission_any _ _ ?_).mono ?_; (have h1:=HBL.out; have h2:l.length * (h.size + 2 * 32 + 7) ≤ 4 * (8 + 2 * 32 + 7):=Nat.mul_le_mul (by omega) (by omega); rw [(Is.mk _).size]; unfold Blk.body; rw [datas_length]; omega); rintro e w4 ⟨rfl,hb4⟩))
   go_ret2
   exact ⟨rfl,below_step (below_step (below_step HB0.out hb2) hb3) hb4⟩
  ·have HS:Hid (Blk.encS h.data.toList (datas l) c t k = []):=by simp [Hid,Blk.encS,hE,hz]
   rw [HS.out,hE]
   generalize hbz:Blk.berr h.data.toList (datas l) c = z at *
   have HZ:=hide hbz
   have hnz:(z != 0) = true:=by simp [hz]
   have HTX:=hide ht1
   have HLL:=hide hl
   clear ht1 hl ht hE hbz hz HS
   go_enter Tryz.func45,Tryz.ntmps45
   go_wp2_with (first | (go_at_call 67; refine (isCheck_any k _).mono ?_; rintro e w1 ⟨rfl,rfl⟩; rw [hd.out]) | (go_at_call 71; refine (blockError_any h _ l cap c t _ hh HLL.out hn HTX.out).mono ?_; rintro e w2 ⟨rfl,hb2⟩; rw [HZ.out]))
   go_ret2
   exact ⟨rfl,below_step HB0.out hb2⟩
 ·have hd:Hid (decide (k = 0 ∨ k = 1) = false):=by simp [Hid,hk]
  have hE:Blk.encE h.data.toList (datas l) c k = 1:=by simp [Blk.encE,hk]
  have hS:Blk.encS h.data.toList (datas l) c t k = []:=by simp [Blk.encS,hE]
  rw [hS,hE]
  clear hk hE hS hl ht ht1
  go_enter Tryz.func45,Tryz.ntmps45
  go_wp2_with (first | (go_at_call 67; refine (isCheck_any k _).mono ?_; rintro e w1 ⟨rfl,rfl⟩; rw [hd.out]))
  go_ret2
  exact ⟨rfl,HB0.out⟩
end Go.Proofs.YtlbpjcphhocdkaaGreat
