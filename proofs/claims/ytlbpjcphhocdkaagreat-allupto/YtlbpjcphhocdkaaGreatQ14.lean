/- Plain: a tick of the document's line is the model's. The document's line: what one station does leaves the other alone. The document's long division: what its function remainder answers is the register's two bytes. The .. -/
import Derived.Test.YtlbpjcphhocdkaaGreatQ13
import Derived.Test.YtlbpjcphhocdkaaGreatQ05
import Derived.Test.YtlbpjcphhocdkaaGreatQ12
import Derived.Test.YtlbpjcphhocdkaaGreatQ01
import Derived.Lib.Strings
set_option maxRecDepth 1000000
set_option maxHeartbeats 16000000
namespace Go.Proofs.YtlbpjcphhocdkaaGreat
open Go.Proofs.YtlbpjcphhocdkaaGreat.Mod Go.Proofs.YtlbpjcphhocdkaaGreat.Pst
/-- The document's line stands for the model's. -/
structure RLR (x:Ln) (r0 r1:RS):Prop where
 a:RRel r0 x.s0
 b:RRel r1 x.s1
theorem rtick_rel {x:Ln} {r0 r1:RS} (h:RLR x r0 r1) :
  RLR (tick x) (rone x.c (x.now + 1) 0 r0 (hears0 x)).1 (rone x.c (x.now + 1) 1 r1 (hears1 x)).1 ∧ (rone x.c (x.now + 1) 0 r0 (hears0 x)).2.1 = (tick x).on0 ∧ (rone x.c (x.now + 1) 1 r1 (hears1 x)).2.1 = (tick x).on1
  ∧ (rone x.c (x.now + 1) 0 r0 (hears0 x)).2.2.toList ++ (rone x.c (x.now + 1) 1 r1 (hears1 x)).2.2.toList = events x:=by
 have a:=same_one (c:=x.c) (now:=x.now + 1) (i:=0) (h:=hears0 x) h.a
 have b:=same_one (c:=x.c) (now:=x.now + 1) (i:=1) (h:=hears1 x) h.b
 refine ⟨⟨a.rel,b.rel⟩,a.on,b.on,?_⟩
 rw [a.ev,b.ev]
 rfl
theorem RLR.new (c:Cfg):RLR (newL c) ⟨0,false,[],0,0,0,-3,0,0,false,0,0,[]⟩ ⟨0,false,[],0,0,0,-3,0,0,false,0,0,[]⟩ :=
 ⟨⟨rfl,rfl,rfl,rfl,fun z=>absurd rfl z,rfl,rfl,rfl,rfl,rfl,rfl,rfl⟩,⟨rfl,rfl,rfl,rfl,fun z=>absurd rfl z,rfl,rfl,rfl,rfl,rfl,rfl,rfl⟩⟩
theorem RLR.busy {x:Ln} {r0 r1:RS} (h:RLR x r0 r1) (on:Bool):RLR { x with s0:={ x.s0 with busy:=on } } { r0 with busy:=on } r1 ∧ RLR { x with s1:={ x.s1 with busy:=on } } r0 { r1 with busy:=on } :=
 ⟨⟨⟨h.a.mode,rfl,h.a.q,h.a.joined,h.a.due,h.a.rest,h.a.tries,h.a.off,h.a.free,h.a.block,h.a.count,h.a.got⟩,h.b⟩,⟨h.a,⟨h.b.mode,rfl,h.b.q,h.b.joined,h.b.due,h.b.rest,h.b.tries,h.b.off,h.b.free,h.b.block,h.b.count,h.b.got⟩⟩⟩
end Go.Proofs.YtlbpjcphhocdkaaGreat
namespace Go.Proofs.YtlbpjcphhocdkaaGreat
open Go.RowKit Go.Proofs.YtlbpjcphhocdkaaGreat.Mod Go.Proofs.YtlbpjcphhocdkaaGreat.Pst
theorem GAt.bound {w:World} {F:Nat → Prop} {v:Value} {l:List Bk} (h:GAt w F v l):GAt w (fun g=>F g ∧ g < w.heap.size) v l:=by
 obtain ⟨vs,h0,h1,h2,h3⟩:=h
 refine ⟨vs,h0,h1,fun g hg=>⟨h2 g hg,(World.ownsRow.lt h1 g hg).2⟩,fun k hk=>?_⟩
 obtain ⟨x,hx,hr,hf,hd⟩:=h3 k hk
 exact ⟨x,hx,hr,fun g hg=>⟨hf g hg,(World.ownsRow.lt hr g hg).2⟩,hd⟩
theorem RAt.bound {w:World} {F:Nat → Prop} {A:RAd} {c:Cfg} {now:Nat} {s:RS} {on:List UInt8} (h:RAt w F A c now s on):RAt w (fun g=>F g ∧ g < w.heap.size) A c now s on:=by
 obtain ⟨v,hv,hq⟩:=h.que
 obtain ⟨g,hg,hG⟩:=h.got
 have hok:A.Ok (fun g=>F g ∧ g < w.heap.size):=⟨h.ok.i,h.ok.h1,h.ok.h2,h.ok.h3,h.ok.h4,h.ok.h5,h.ok.h6,fun z=>h.ok.f1 z.1,fun z=>h.ok.f2 z.1,fun z=>h.ok.f3 z.1,fun z=>h.ok.f4 z.1⟩
 exact ⟨h.cfg,h.now,h.lst,h.onl,h.ptr,h.on,h.mode,h.busy,⟨v,hv,⟨hq.1,fun x hx=>⟨hq.2 x hx,hq.lt x hx⟩⟩⟩,h.joined,h.began,h.wait,h.ended,h.tries,h.off,h.free,h.block,h.count,⟨g,hg,hG.bound⟩,h.zob,h.zsb,hok⟩
/-- The other station,behind what one did. -/
theorem RAt.other {w w':World} {F:Nat → Prop} {A A':RAd} {c:Cfg} {now:Nat} {s:RS} {on:List UInt8} (h:RAt w F A c now s on) (ho:A'.ob = A.ob) (hi:A.i ≠ A'.i) (hb:A.sb ≠ A'.sb) (hn1:A'.sb ≠ A.yb) (hn2:A'.sb ≠ A.sl) (hF:¬ F A'.sb) (B:RB A' w w'):RAt w' F A c now s on:=by
 obtain ⟨v,hv,hq⟩:=h.que
 obtain ⟨g,hg,hG⟩:=h.got
 have kb:∀ x,x < w.heap.size → x ≠ A'.sb → x ≠ A.ob → w'.heap[x]? = w.heap[x]?:=fun x hx h1 h2=>B.block x hx h1 (by rw [ho]; exact h2)
 have e1:∀ j,w'.cell? ⟨A.yb,j,none⟩ = w.cell? ⟨A.yb,j,none⟩:=fun j=>World.cell?_of_block (kb _ h.lyb (Ne.symm hn1) h.ok.h2)
 have e2:∀ j,w'.cell? ⟨A.sl,j,none⟩ = w.cell? ⟨A.sl,j,none⟩:=fun j=>World.cell?_of_block (kb _ h.lsl (Ne.symm hn2) h.ok.h4)
 have e4:∀ j,w'.cell? ⟨A.sb,j,none⟩ = w.cell? ⟨A.sb,j,none⟩:=fun j=>World.cell?_of_block (kb _ h.lsb hb (Ne.symm h.ok.h6))
 have e3:w'.cell? ⟨A.ob,A.i,none⟩ = w.cell? ⟨A.ob,A.i,none⟩:=by have:=B.cell A.i hi; rw [ho] at this; exact this
 have z3:∀ j,w'.frozen? ⟨A.ob,j,none⟩ = w.frozen? ⟨A.ob,j,none⟩:=fun j=>by have:=B.zob j; rw [ho] at this; exact this
 have z4:∀ j,w'.frozen? ⟨A.sb,j,none⟩ = w.frozen? ⟨A.sb,j,none⟩:=fun j=>World.frozen?_of_block (kb _ h.lsb hb (Ne.symm h.ok.h6))
 have kF:∀ x,F x → x < w.heap.size → w'.heap[x]? = w.heap[x]?:=fun x hx hl=>kb x hl (fun e=>hF (e ▸ hx)) (fun e=>h.ok.f3 (e ▸ hx))
 exact ⟨h.cfg.keep fun i _=>e1 i,(e1 _).trans h.now,(e1 _).trans h.lst,(e1 _).trans h.onl,(e2 _).trans h.ptr,e3.trans h.on,(e4 _).trans h.mode,(e4 _).trans h.busy,⟨v,(e4 _).trans hv,hq.keep kF⟩,(e4 _).trans h.joined,(e4 _).trans h.began,(e4 _).trans h.wait,(e4 _).trans h.ended,(e4 _).trans h.tries,(e4 _).trans h.off,(e4 _).trans h.free,(e4 _).trans h.block,(e4 _).trans h.count,⟨g,(e4 _).trans hg,hG.keep kF⟩,fun j=>(z3 j).trans (h.zob j),fun j=>(z4 j).trans (h.zsb j),h.ok⟩
/-- One station of a line,and what it may do. -/
theorem RLn.one0 {w:World} {F:Nat → Prop} {yb:Nat} {c:Cfg} {now:Nat} {r0 r1:RS} {on0 on1:List UInt8} (h:RLn w F yb c now r0 r1 on0 on1):∃ (sl ob b0:Nat) (F0:Nat → Prop),RAt w F0 ⟨yb,sl,ob,b0,0⟩ c now r0 on0 ∧ (∀ g,F0 g → g < w.heap.size) ∧
  ∀ (w':World) (r0':RS) (on0':List UInt8),RAt w' (Plus F0 w) ⟨yb,sl,ob,b0,0⟩ c now r0' on0' → RB ⟨yb,sl,ob,b0,0⟩ w w' → RLn w' (Plus F w) yb c now r0' r1 on0' on1 ∧ Fr F w w':=by
 obtain ⟨sl,ob,b0,b1,F0,F1,h0,h1,n,a1,a2,a3,a4,a5,f1,f2,f3,f4,f5⟩:=h.at'
 refine ⟨sl,ob,b0,F0,h0,fun g hg=>(a4 g hg).2,?_⟩
 intro w' r0' on0' k B
 have k1:=h1.other (A':=⟨yb,sl,ob,b0,0⟩) rfl (by simp) (Ne.symm n) (Ne.symm h0.ok.h3) (Ne.symm h0.ok.h5) a2 B
 have hb1:b1 < w.heap.size:=h1.lsb
 refine ⟨⟨sl,ob,b0,b1,_,F1,k.bound,k1,n,?_,a2,?_,?_,?_,Or.inl f1,Or.inl f2,Or.inl f3,Or.inl f4,Or.inl f5⟩,?_⟩
 ·rintro ⟨z | z,_⟩
  ·exact a1 z
  ·omega
 ·rintro g ⟨z | z,_⟩
  ·exact a3 g z
  ·exact fun y=>by have:=(a5 g y).2; omega
 ·rintro g ⟨z | z,zl⟩
  ·exact ⟨Or.inl (a4 g z).1,zl⟩
  ·exact ⟨Or.inr z,zl⟩
 ·exact fun g y=>⟨Or.inl (a5 g y).1,Nat.lt_of_lt_of_le (a5 g y).2 B.size⟩
 ·exact ⟨B.os,B.tape,B.output,B.size,fun g hg hn=>B.block g hg (fun e=>hn (by rw [e]; exact f4)) (fun e=>hn (by rw [e]; exact f3))⟩
theorem RLn.one1 {w:World} {F:Nat → Prop} {yb:Nat} {c:Cfg} {now:Nat} {r0 r1:RS} {on0 on1:List UInt8} (h:RLn w F yb c now r0 r1 on0 on1):∃ (sl ob b1:Nat) (F1:Nat → Prop),RAt w F1 ⟨yb,sl,ob,b1,1⟩ c now r1 on1 ∧ (∀ g,F1 g → g < w.heap.size) ∧
  ∀ (w':World) (r1':RS) (on1':List UInt8),RAt w' (Plus F1 w) ⟨yb,sl,ob,b1,1⟩ c now r1' on1' → RB ⟨yb,sl,ob,b1,1⟩ w w' → RLn w' (Plus F w) yb c now r0 r1' on0 on1' ∧ Fr F w w':=by
 obtain ⟨sl,ob,b0,b1,F0,F1,h0,h1,n,a1,a2,a3,a4,a5,f1,f2,f3,f4,f5⟩:=h.at'
 refine ⟨sl,ob,b1,F1,h1,fun g hg=>(a5 g hg).2,?_⟩
 intro w' r1' on1' k B
 have k0:=h0.other (A':=⟨yb,sl,ob,b1,1⟩) rfl (by simp) n (Ne.symm h1.ok.h3) (Ne.symm h1.ok.h5) a1 B
 have hb0:b0 < w.heap.size:=h0.lsb
 refine ⟨⟨sl,ob,b0,b1,F0,_,k0,k.bound,n,a1,?_,?_,?_,?_,Or.inl f1,Or.inl f2,Or.inl f3,Or.inl f4,Or.inl f5⟩,?_⟩
 ·rintro ⟨z | z,_⟩
  ·exact a2 z
  ·omega
 ·rintro g y ⟨z | z,_⟩
  ·exact a3 g y z
  ·have:=(a4 g y).2; omega
 ·exact fun g y=>⟨Or.inl (a4 g y).1,Nat.lt_of_lt_of_le (a4 g y).2 B.size⟩
 ·rintro g ⟨z | z,zl⟩
  ·exact ⟨Or.inl (a5 g z).1,zl⟩
  ·exact ⟨Or.inr z,zl⟩
 ·exact ⟨B.os,B.tape,B.output,B.size,fun g hg hn=>B.block g hg (fun e=>hn (by rw [e]; exact f5)) (fun e=>hn (by rw [e]; exact f3))⟩
/-- Busy,of one station. -/
theorem rbusy_one (F:Nat → Prop) (A:RAd) (c:Cfg) (now:Nat) (s:RS) (on:List UInt8) (b:Bool) (w:World) (h:RAt w F A c now s on) :
  Calls Tryz.prog 36 #[.pointer (some ⟨A.yb,0,none⟩),.int .i64 A.i,.bool b] w fun e w'=>e = .returned (.int .i64 0) ∧ RAt w' F A c now { s with busy:=b } on ∧ RB A w w':=by
 have hi:=h.ok.i
 have d1:=h.lst
 have d2:=h.ptr
 have c1:=h.busy
 have f1:=h.zsb 1
 have H:=hide (h.busy' b)
 have B:=hide ((RB.refl A w).setS h.ok.h6 1 (.bool b))
 have n1:¬ (A.i:Int) < 0:=by omega
 have n2:¬ (1:Int) < (A.i:Int):=by omega
 have n3:(A.i:Int) < 2:=by omega
 clear h
 go_enter Tryz.func36,Tryz.ntmps36
 go_wp2
 go_ret
 exact ⟨rfl,H.out,B.out⟩
theorem rbusy_no (yb:Nat) (st:Int) (b:Bool) (w:World) (h:¬ (st = 0 ∨ st = 1)) :
  Calls Tryz.prog 36 #[.pointer (some ⟨yb,0,none⟩),.int .i64 st,.bool b] w fun e w'=>e = .returned (.int .i64 7) ∧ w' = w:=by
 rcases (show st < 0 ∨ (¬ st < 0 ∧ 1 < st) by omega) with z | ⟨z,y⟩
 ·clear h
  go_enter Tryz.func36,Tryz.ntmps36
  go_wp2
  go_ret
  exact ⟨rfl,rfl⟩
 ·clear h
  go_enter Tryz.func36,Tryz.ntmps36
  go_wp2
  go_ret
  exact ⟨rfl,rfl⟩
end Go.Proofs.YtlbpjcphhocdkaaGreat
namespace Go.Proofs.YtlbpjcphhocdkaaGreat
open Go.RowKit Go.Joins
def bi (b:Bool):Int:=if b then 1 else 0
def bv (b:Bool):Value:=.int .i64 (bi b)
theorem bi_lo (b:Bool):0 ≤ bi b:=by cases b <;> decide
theorem bi_hi (b:Bool):bi b ≤ 1:=by cases b <;> decide
/-- Block g holds the bits L. -/
def Bits (w:World) (g:Nat) (L:List Bool):Prop:=w.heap[g]? = some (.cells (L.map bv).toArray 3 (0,0))
theorem Bits.cell {w:World} {g:Nat} {L:List Bool} (h:Bits w g L) (j:Nat) (hj:j < L.length):w.cell? ⟨g,j,none⟩ = some (.int .i64 (bi (L.getD j false))):=by
 rw [cell_of_block h]
 simp [List.getElem?_eq_getElem hj,bv,List.getD]
theorem Bits.free {w:World} {g:Nat} {L:List Bool} (h:Bits w g L) (j:Nat):w.frozen? ⟨g,j,none⟩ = false:=unfrozen_of_block h j
theorem Bits.set {w:World} {g:Nat} {L:List Bool} (h:Bits w g L) (j:Nat) (b:Bool) (x:Int) (hx:x = bi b):Bits (w.setCell ⟨g,j,none⟩ (.int .i64 x)) g (L.set j b):=by
 subst hx
 unfold Bits
 rw [block_setCell h]
 simp [List.map_set,bv]
theorem Tryz.infoInt:(Tryz.prog.info? 3).map (fun i=>(i.zero,i.size,i.bytes)) = some (some (.int .i64 0),1,8):=by kernel_rfl
theorem run_make_int (w:World) (n:Nat) (m:Int) (hm:m = (n:Int)) (hn:n ≤ 10000000000000) :
  (Instr.makeSlice 124 (.int .i64 m) (.int .i64 m)).run Tryz.prog w = .ok (.slice (some ⟨w.heap.size,0,none⟩) n n) (w.alloc (.cells ((List.replicate n false).map bv).toArray 3)):=by
 obtain ⟨i0,hi,hz0,hz1,hz2⟩:=info_parts Tryz.infoInt
 subst hm
 have h:=run_make (P:=Tryz.prog) w 124 3 i0 (.int .i64 0) Tryz.underlying124 hi hz0 .i64 .i64 n n (by omega) (by omega) (by rw [hz2]; omega) (by omega)
 rw [h,hz1]
 simp only [Int.toNat_natCast,Nat.mul_one]
 congr 3
 apply Array.ext'
 have:=toList_madeCells_one (.int .i64 0) n
 rw [show (Value.int IntKind.i64 0).cells = #[.int .i64 0] from rfl,this]
 simp [bv,bi]
theorem bit_i64 (c m:Nat) (hc:c < 256):bits .and .i64 (wrap64 (c:Int) / 2 ^ m) 1 = bi (c.testBit m):=by
 have h1:wrap64 (c:Int) = (c:Int):=by simp only [wrap64]; omega
 have h2:(c:Int) / 2 ^ m = ((c / 2 ^ m:Nat):Int):=by simp
 have h3:c / 2 ^ m < 9223372036854775808:=by have:=Nat.div_le_self c (2 ^ m); omega
 have h:=bits_mask .i64 63 (by decide) (fun n h0 h1=>by rw [IntKind.wrap_i64]; omega) 1 (by decide) ((c / 2 ^ m:Nat):Int) (Int.natCast_nonneg _) (by have:=Int.ofNat_lt.2 h3; exact this)
 have e:((2:Int) ^ 1 - 1) = 1:=by decide
 rw [e] at h
 rw [h1,h2,h]
 have t:c.testBit m = decide (c / 2 ^ m % 2 = 1):=by
  rw [← Nat.testBit_zero,Nat.testBit_div_two_pow,Nat.zero_add]
 rw [t]
 unfold bi
 generalize c / 2 ^ m = y
 by_cases hy:y % 2 = 1
 ·simp [hy]; omega
 ·simp [hy]; omega
theorem getD_set (L:List Bool) (i j:Nat) (b:Bool) (hi:i < L.length):(L.set i b).getD j false = if i = j then b else L.getD j false:=by
 simp only [List.getD,List.getElem?_set]
 by_cases h:i = j
 ·subst h; simp [hi]
 ·simp [h]
theorem bi_not (b:Bool):1 - bi b = bi (!b):=by cases b <;> rfl
/-- Loop 1's step. -/
theorem rem_fill (s:ByteArray) (k:Nat) (L:List Bool) (hL:L.length = 8 * s.size + 17) (hk:k < 8 * s.size) (h8:k / 8 < s.size)
  (hlo:∀ j,j < k → L.getD j false = Crc.bitAt s.data.toList j) (hhi:∀ j,k ≤ j → L.getD j false = false) :
  let b:=(s[k / 8]'h8).toNat.testBit (k % 8)
  (L.set k b).length = 8 * s.size + 17 ∧ (∀ j,j < k + 1 → (L.set k b).getD j false = Crc.bitAt s.data.toList j) ∧ (∀ j,k + 1 ≤ j → (L.set k b).getD j false = false):=by
 intro b
 refine ⟨by simp [hL],fun j hj=>?_,fun j hj=>?_⟩
 ·rw [getD_set _ _ _ _ (by omega)]
  by_cases h:k = j
  ·subst h
   simp only [if_pos]
   have:s.data.toList.getD (k / 8) 0 = s[k / 8]'h8:=by
    simp [List.getD,List.getElem?_eq_getElem (show k / 8 < s.data.toList.length by simpa using h8)]
    rfl
   unfold Crc.bitAt
   rw [this]
  ·rw [if_neg h]; exact hlo j (by omega)
 ·rw [getD_set _ _ _ _ (by omega),if_neg (by omega)]
  exact hhi j (by omega)
theorem bitAt_past (l:List UInt8) (j:Nat) (h:8 * l.length ≤ j):Crc.bitAt l j = false:=by
 unfold Crc.bitAt
 have:l.getD (j / 8) 0 = 0:=by
  simp [List.getD,List.getElem?_eq_none (show l.length ≤ j / 8 by omega)]
 rw [this]
 simp
theorem left_zero (B:Nat → Bool) (j:Nat):Crc.left B 0 j = B j:=by simp [Crc.left,Crc.regN]
/-- Loop 2's step,where the bit is set. -/
theorem rem_yes (B:Nat → Bool) (n k:Nat) (L:List Bool) (hL:L.length = n + 17) (hk:k < n) (hb:L.getD k false = true)
  (h:∀ j,k ≤ j → j < n + 17 → L.getD j false = Crc.left B k j) :
  let L':=(((L.set k false).set (k + 1) (!L.getD (k + 1) false)).set (k + 14) (!L.getD (k + 14) false)).set (k + 16) (!L.getD (k + 16) false)
  L'.length = n + 17 ∧ ∀ j,k + 1 ≤ j → j < n + 17 → L'.getD j false = Crc.left B (k + 1) j:=by
 intro L'
 refine ⟨by simp [L',hL],fun j h1 h2=>?_⟩
 rw [Crc.left_step B k j h1,← h j (by omega) h2,← h k (Nat.le_refl _) (by omega),hb]
 show ((((L.set k false).set (k + 1) (!L.getD (k + 1) false)).set (k + 14) (!L.getD (k + 14) false)).set (k + 16) (!L.getD (k + 16) false)).getD j false = _
 rw [getD_set _ _ _ _ (by simp; omega),getD_set _ _ _ _ (by simp; omega),getD_set _ _ _ _ (by simp; omega),getD_set _ _ _ _ (by omega)]
 by_cases a1:k + 16 = j
 ·subst a1; simp
 ·by_cases a2:k + 14 = j
  ·subst a2; simp
  ·by_cases a3:k + 1 = j
   ·subst a3; simp
   ·have b1:¬ j = k + 16:=by omega
    have b2:¬ j = k + 14:=by omega
    have b3:¬ j = k + 1:=by omega
    have b4:¬ k = j:=by omega
    simp [a1,a2,a3,b1,b2,b3,b4]
theorem rem_no (B:Nat → Bool) (n k:Nat) (L:List Bool) (hk:k < n) (hb:L.getD k false = false)
  (h:∀ j,k ≤ j → j < n + 17 → L.getD j false = Crc.left B k j) :
  ∀ j,k + 1 ≤ j → j < n + 17 → L.getD j false = Crc.left B (k + 1) j:=by
 intro j h1 h2
 rw [Crc.left_step B k j h1,← h j (by omega) h2,← h k (Nat.le_refl _) (by omega),hb]
 simp
theorem rem_end (l:List UInt8) (L:List Bool) (h:∀ j,8 * l.length ≤ j → j < 8 * l.length + 17 → L.getD j false = Crc.left (Crc.bitAt l) (8 * l.length) j) (k:Nat) (hk:k < 16) :
  L.getD (8 * l.length + k) false = (Crc.crc l).testBit k:=by
 rw [h _ (by omega) (by omega),Crc.left,Crc.regN_all,bitAt_past _ _ (by omega)]
 simp
theorem low_bit (x m:Nat) (hm:m < 8):2 * (x % 256 / 2 ^ (m + 1)) + (if x.testBit m then 1 else 0) = x % 256 / 2 ^ m:=by
 have:=Crc.gather (x % 256) m
 rw [show (256:Nat) = 2 ^ 8 from rfl,Nat.testBit_mod_two_pow] at this
 simpa [hm] using this
theorem high_bit (x m:Nat):2 * (x / 256 / 2 ^ (m + 1)) + (if x.testBit (m + 8) then 1 else 0) = x / 256 / 2 ^ m:=by
 have:=Crc.gather (x / 256) m
 rw [show (256:Nat) = 2 ^ 8 from rfl,Nat.testBit_div_two_pow] at this
 exact this
theorem remainder_any (s:ByteArray) (w:World) (hs:s.size ≤ 1000000000000) :
  Calls Tryz.prog 69 #[.string s] w fun e w'=>e = .returned (.string ⟨(Crc.crcS s.data.toList).toArray⟩) ∧ Below w.heap.size w w':=by
 have c2:=conv_lit2
 have hmk:=run_make_int w (8 * s.size + 17) (8 * (s.size:Int) + 17) (by omega) (by omega)
 have hm0:Bits (w.alloc (.cells ((List.replicate (8 * s.size + 17) false).map bv).toArray 3)) w.heap.size (List.replicate (8 * s.size + 17) false):=heap_alloc_new w _
 have hb0:Below w.heap.size w (w.alloc (.cells ((List.replicate (8 * s.size + 17) false).map bv).toArray 3)):=(Below.refl _ _).alloc (Nat.le_refl _) _
 generalize hW:w.alloc (.cells ((List.replicate (8 * s.size + 17) false).map bv).toArray 3) = W0 at *
 have HW:=hide hW
 clear hW
 go_enter Tryz.func69,Tryz.ntmps69
 go_wp2
 go_loopw [5] (fun i wr=>∃ k:Nat,∃ L:List Bool,k ≤ 8 * s.size ∧ i = .int .i64 k ∧ L.length = 8 * s.size + 17 ∧ Bits wr w.heap.size L ∧ Below w.heap.size w wr ∧ (∀ j,j < k → L.getD j false = Crc.bitAt s.data.toList j) ∧ (∀ j,k ≤ j → L.getD j false = false)) (fun i _=>8 * s.size - (intOf i).toNat)
 case atStart=>exact ⟨0,_,by omega,rfl,by simp,hm0,hb0,fun j hj=>by omega,fun j _=>by simp [List.getD,List.getElem?_replicate]; split <;> rfl⟩
 case round =>
  obtain ⟨k,L,hk,rfl,hL,hbits,hbel,hlo,hhi⟩:=hrel
  by_cases hlt:k < 8 * s.size
  ·have hc:=hbits.cell k (by omega)
   have hf:=hbits.free k
   have H1:=hide hlo
   have H2:=hide hhi
   have h8:k / 8 < s.size:=by omega
   clear hlo hhi
   go_wp2
   go_roundw
   case rel =>
    have hr:=rem_fill s k L hL hlt h8 H1.out H2.out
    exact ⟨k + 1,_,by omega,by go_num,hr.1,hbits.set k _ _ (bit_i64 _ _ (Crc.byte_lt _)),hbel.setCell (Nat.le_refl _) _,hr.2.1,hr.2.2⟩
   case measure=>simp [intOf]; omega
  ·obtain rfl:k = 8 * s.size:=by omega
   have HS:Hid (∀ j,0 ≤ j → j < 8 * s.size + 17 → L.getD j false = Crc.left (Crc.bitAt s.data.toList) 0 j):=by
    intro j _ _
    rw [left_zero]
    by_cases h:j < 8 * s.size
    ·exact hlo j h
    ·rw [hhi j (by omega),bitAt_past _ _ (by simp; omega)]
   clear hlo hhi hm0 hb0 hmk HW hlt hk
   go_wp2
   go_loopw [6] (fun i wr=>∃ k:Nat,∃ L:List Bool,k ≤ 8 * s.size ∧ i = .int .i64 k ∧ L.length = 8 * s.size + 17 ∧ Bits wr w.heap.size L ∧ Below w.heap.size w wr ∧ (∀ j,k ≤ j → j < 8 * s.size + 17 → L.getD j false = Crc.left (Crc.bitAt s.data.toList) k j)) (fun i _=>8 * s.size - (intOf i).toNat)
   case atStart=>exact ⟨0,L,by omega,rfl,hL,hbits,hbel,HS.out⟩
   case round =>
    clear hbits hbel hL HS
    clear L
    obtain ⟨k,L,hk,rfl,hL,hbits,hbel,hlo⟩:=hrel
    have HL:=hide hlo
    clear hlo
    by_cases hlt:k < 8 * s.size
    ·have hc:=hbits.cell k (by omega)
     have hf:=hbits.free k
     cases hb:L.getD k false
     ·have HB:=hide hb
      rw [hb] at hc
      clear hb
      have hc':wr.cell? ⟨w.heap.size,k,none⟩ = some (.int .i64 0):=hc
      clear hc
      go_wp2
      go_roundw
      case rel=>exact ⟨k + 1,L,by omega,by go_num,hL,hbits,hbel,rem_no _ _ _ _ hlt HB.out HL.out⟩
      case measure=>simp [intOf]; omega
     ·have HB:=hide hb
      rw [hb] at hc
      clear hb
      have hc':wr.cell? ⟨w.heap.size,k,none⟩ = some (.int .i64 1):=hc
      clear hc
      have hc1:=hbits.cell (k + 1) (by omega)
      have hf1:=hbits.free (k + 1)
      have hc2:=hbits.cell (k + 14) (by omega)
      have hf2:=hbits.free (k + 14)
      have hc3:=hbits.cell (k + 16) (by omega)
      have hf3:=hbits.free (k + 16)
      have l1:=bi_lo (L.getD (k + 1) false)
      have g1:=bi_hi (L.getD (k + 1) false)
      have l2:=bi_lo (L.getD (k + 14) false)
      have g2:=bi_hi (L.getD (k + 14) false)
      have l3:=bi_lo (L.getD (k + 16) false)
      have g3:=bi_hi (L.getD (k + 16) false)
      have n1:=hide (bi_not (L.getD (k + 1) false))
      have n2:=hide (bi_not (L.getD (k + 14) false))
      have n3:=hide (bi_not (L.getD (k + 16) false))
      have HR:=hide (rem_yes _ _ _ _ hL hlt HB.out HL.out)
      generalize hx1:L.getD (k + 1) false = b1 at *
      generalize hx2:L.getD (k + 14) false = b2 at *
      generalize hx3:L.getD (k + 16) false = b3 at *
      clear hx1 hx2 hx3
      generalize bi b1 = x1 at *
      generalize bi b2 = x2 at *
      generalize bi b3 = x3 at *
      go_wp2
      go_roundw
      case rel =>
       have hr:=HR.out
       exact ⟨k + 1,_,by omega,by go_num,hr.1,(((hbits.set k false _ rfl).set (k + 1) _ _ n1.out).set (k + 14) _ _ n2.out).set (k + 16) _ _ n3.out,(((hbel.setCell (Nat.le_refl _) _).setCell (Nat.le_refl _) _).setCell (Nat.le_refl _) _).setCell (Nat.le_refl _) _,hr.2⟩
      case measure=>simp [intOf]; omega
    ·obtain rfl:k = 8 * s.size:=by omega
     have hz:s.data.toList.length = s.size:=by simp
     have HE:=hide (rem_end s.data.toList L (by rw [hz]; exact HL.out))
     have HC:Hid (Crc.crcS s.data.toList = [UInt8.ofNat (Crc.crc s.data.toList % 256),UInt8.ofNat (Crc.crc s.data.toList / 256)]):=rfl
     have hlt2:=Crc.crc_lt s.data.toList
     rw [hz] at HE
     generalize Crc.crc s.data.toList = R at *
     clear HL hlt hk hz
     go_wp2
     go_loop [7,8,9] (fun a b i=>∃ m:Nat,m ≤ 8 ∧ i = .int .i64 ((m:Int) - 1) ∧ a = .int .i64 (R % 256 / 2 ^ m:Nat) ∧ b = .int .i64 (R / 256 / 2 ^ m:Nat)) (fun _ _ i=>(intOf i + 1).toNat)
     case atStart=>exact ⟨8,by omega,rfl,by rw [Nat.div_eq_of_lt (by omega)]; rfl,by rw [Nat.div_eq_of_lt (by omega)]; rfl⟩
     case round =>
      obtain ⟨m,hm,rfl,rfl,rfl⟩:=hrel
      match m,hm with
      | 0,_ =>
       go_wp2
       go_ret
       refine ⟨?_,hbel.alloc (by have:=hbel.size; omega) _⟩
       rw [HC.out]
       simp [strOfNums]
       exact ⟨congrArg UInt8.ofNat (by omega),congrArg UInt8.ofNat (by omega)⟩
      | m + 1,hm =>
       have e1:(((m + 1:Nat):Int) - 1) = (m:Int):=by omega
       rw [e1]
       clear e1
       have hc1:=hbits.cell (8 * s.size + m) (by omega)
       have hc2:=hbits.cell (8 * s.size + 8 + m) (by omega)
       rw [HE.out m (by omega)] at hc1
       rw [show 8 * s.size + 8 + m = 8 * s.size + (m + 8) by omega,HE.out (m + 8) (by omega),show 8 * s.size + (m + 8) = 8 * s.size + 8 + m by omega] at hc2
       have L1:=low_bit R m (by omega)
       have L2:=high_bit R m
       have b1:R % 256 / 2 ^ (m + 1) ≤ 65535:=by have:=Nat.div_le_self (R % 256) (2 ^ (m + 1)); omega
       have b2:R / 256 / 2 ^ (m + 1) ≤ 65535:=by have:=Nat.div_le_self (R / 256) (2 ^ (m + 1)); omega
       have e1:bi (R.testBit m) = ((if R.testBit m then 1 else 0:Nat):Int):=by cases R.testBit m <;> rfl
       have e2:bi (R.testBit (m + 8)) = ((if R.testBit (m + 8) then 1 else 0:Nat):Int):=by cases R.testBit (m + 8) <;> rfl
       have l1:=bi_lo (R.testBit m)
       have g1:=bi_hi (R.testBit m)
       have l2:=bi_lo (R.testBit (m + 8))
       have g2:=bi_hi (R.testBit (m + 8))
       generalize hy1:bi (R.testBit m) = y1 at *
       generalize hy2:bi (R.testBit (m + 8)) = y2 at *
       have N1:Hid (2 * ((R % 256 / 2 ^ (m + 1):Nat):Int) + y1 = ((R % 256 / 2 ^ m:Nat):Int)):=by rw [Hid,e1,← L1]; omega
       have N2:Hid (2 * ((R / 256 / 2 ^ (m + 1):Nat):Int) + y2 = ((R / 256 / 2 ^ m:Nat):Int)):=by rw [Hid,e2,← L2]; omega
       clear e1 e2 L1 L2 hy1 hy2
       generalize R % 256 / 2 ^ (m + 1) = z1 at *
       generalize R / 256 / 2 ^ (m + 1) = z2 at *
       go_wp2
       go_round
       case rel=>exact ⟨m,by omega,by go_num,congrArg (Value.int .i64) N1.out,congrArg (Value.int .i64) N2.out⟩
       case measure=>simp [intOf]
theorem refSum_xor (s:ByteArray) (w:World) (hs:s.size ≤ 1000000000000) :
  Calls Tryz.prog 40 #[.string s,.int .i64 0] w fun e w'=>e = .returned (.tuple #[.string ⟨(Crc.xorS s.data.toList).toArray⟩,.int .i64 0]) ∧ Below w.heap.size w w':=by
 have c1:=conv_lit1
 go_enter Tryz.func40,Tryz.ntmps40
 go_wp2
 go_loop [6,7] (fun r i=>∃ k:Nat,k ≤ s.size ∧ i = .int .i64 k ∧ r = .int .u8 (Crc.xorB (s.data.toList.take k):Nat)) (fun _ i=>s.size - (intOf i).toNat)
 case atStart=>exact ⟨0,by omega,rfl,rfl⟩
 case round =>
  obtain ⟨k,hk,rfl,rfl⟩:=hrel
  by_cases hlt:k < s.size
  ·have hx:=Crc.xorB_lt (s.data.toList.take k)
   have hb:=Crc.byte_lt s[k]
   have HS:Hid (Crc.xorB (s.data.toList.take (k + 1)) = Crc.xorB (s.data.toList.take k) ^^^ s[k].toNat):=by rw [Hid,take_snoc s k hlt,Crc.xorB_snoc]
   have HX:Hid (bits .xor .u8 (Crc.xorB (s.data.toList.take k):Int) (s[k].toNat:Int) = ((Crc.xorB (s.data.toList.take k) ^^^ s[k].toNat:Nat):Int)):=xor_u8 _ _ hx hb
   go_wp2
   go_round
   case rel=>exact ⟨k + 1,by omega,by go_num,by rw [HS.out,HX.out]⟩
   case measure=>simp [intOf]; omega
  ·have HT:Hid (s.data.toList.take k = s.data.toList):=List.take_of_length_le (by simp; omega)
   go_wp2
   go_ret2
   refine ⟨?_,(Below.refl _ _).alloc (Nat.le_refl _) _⟩
   rw [HT.out]
   simp [Crc.xorS,strOfNums]
theorem refSum_any (s:ByteArray) (c:Int) (w:World) (hs:s.size ≤ 1000000000000) :
  Calls Tryz.prog 40 #[.string s,.int .i64 c] w fun e w'=>e = .returned (.tuple #[.string ⟨(Crc.sumS c s.data.toList).toArray⟩,.int .i64 (Crc.sumE c)]) ∧ Below w.heap.size w w':=by
 by_cases h0:c = 0
 ·subst h0
  exact refSum_xor s w hs
 ·by_cases h1:c = 1
  ·subst h1
   go_enter Tryz.func40,Tryz.ntmps40
   go_wp2_with (first | (go_at_call 69; refine (remainder_any s _ hs).mono ?_; rintro e w1 ⟨rfl,hb1⟩))
   go_ret2
   exact ⟨rfl,by assumption⟩
  ·have e1:Crc.sumS c s.data.toList = []:=by simp [Crc.sumS,h0,h1]
   have e2:Crc.sumE c = 1:=by simp [Crc.sumE,h0,h1]
   rw [e1,e2]
   have d0:(c == 0) = false:=by simp [h0]
   have d1:(c == 1) = false:=by simp [h1]
   clear h0 h1 e1 e2
   go_enter Tryz.func40,Tryz.ntmps40
   go_wp2
   go_ret2
   exact ⟨rfl,Below.refl _ _⟩
end Go.Proofs.YtlbpjcphhocdkaaGreat
namespace Go.Proofs.YtlbpjcphhocdkaaGreat
open Go.RowKit
theorem checked_any (c:Int) (w:World) :
  Calls Tryz.prog 73 #[.int .i64 c] w fun e w'=>e = .returned (.bool (decide (c = 0 ∨ c = 1))) ∧ w' = w:=by
 by_cases h0:c = 0
 ·subst h0
  go_enter Tryz.func73,Tryz.ntmps73
  go_wp2
  go_ret
  exact ⟨rfl,rfl⟩
 ·by_cases h1:c = 1
  ·subst h1
   go_enter Tryz.func73,Tryz.ntmps73
   go_wp2
   go_ret
   exact ⟨rfl,rfl⟩
  ·have e0:(c == 0) = false:=by simp [h0]
   have e1:(c == 1) = false:=by simp [h1]
   go_enter Tryz.func73,Tryz.ntmps73
   go_wp2
   go_ret
   exact ⟨by simp [h0,h1],rfl⟩
theorem isCtl_mem (u:UInt8):Blk.isCtl u = decide (u ∈ ([1,2,3,4,5,16,21,22,23,31]:List UInt8)):=by
 unfold Blk.isCtl
 simp only [List.mem_cons,List.not_mem_nil,or_false,← UInt8.toNat_inj]
 rfl
theorem isCtl_no {u:UInt8} {cs:ByteArray} (h:cs.data.toList = [1,2,3,4,5,16,21,22,23,31]) (hn:∀ j (hj:j < cs.size),cs[j] ≠ u):Blk.isCtl u = false:=by
 rw [isCtl_mem,← h]
 simp only [decide_eq_false_iff_not]
 intro hm
 obtain ⟨j,hj,e⟩:=List.mem_iff_getElem.1 hm
 exact hn j (by simpa using hj) e
theorem isCtl_yes {u:UInt8} {cs:ByteArray} (h:cs.data.toList = [1,2,3,4,5,16,21,22,23,31]) (j:Nat) (hj:j < cs.size) (e:cs[j] = u):Blk.isCtl u = true:=by
 rw [isCtl_mem,← h]
 simp only [decide_eq_true_eq]
 exact List.mem_iff_getElem.2 ⟨j,by simpa using hj,e⟩
theorem plain_any (s:ByteArray) (w:World) (hs:s.size ≤ 140737488352000) :
  Calls Tryz.prog 60 #[.string s] w fun e w'=>e = .returned (.bool (!Blk.hasCtl s.data.toList)) ∧ ∃ n,w' = w.drewN n:=by
 go_enter Tryz.func60,Tryz.ntmps60
 go_wp2
 obtain ⟨cs,hcs⟩:∃ cs:ByteArray,cs = ⟨#[1,2,3,4,5,16,21,22,23,31]⟩:=⟨_,rfl⟩
 rw [← hcs]
 have HCS:Hid (cs.data.toList = [1,2,3,4,5,16,21,22,23,31]):=by rw [hcs]; rfl
 have hcz:cs.size ≤ 100:=by rw [hcs]; decide
 clear hcs
 go_loopw [4] (fun i wr=>∃ k:Nat,k ≤ s.size ∧ i = .int .i64 k ∧ Hid (Blk.hasCtl (s.data.toList.take k) = false) ∧ ∃ n,wr = w.drewN n) (fun i _=>s.size - (intOf i).toNat)
 case atStart=>exact ⟨0,by omega,rfl,rfl,0,rfl⟩
 case round =>
  obtain ⟨k,hk,rfl,HN,n,rfl⟩:=hrel
  by_cases hlt:k < s.size
  ·have HT:=hide (take_snoc s k hlt)
   have hlt':(k:Int) < (s.size:Int):=by omega
   have hk0:(0:Int) ≤ (k:Int):=by omega
   go_wp2
   go_loopw [5] (fun i wr=>∃ m:Nat,m ≤ cs.size ∧ i = .int .i64 m ∧ Hid (∀ j (hj:j < cs.size),j < m → cs[j] ≠ s[k]) ∧ ∃ n,wr = w.drewN n) (fun i _=>cs.size - (intOf i).toNat)
   case atStart=>exact ⟨0,by omega,rfl,fun j _ h=>by omega,n,rfl⟩
   case round =>
    obtain ⟨m,hm,rfl,HM,n2,rfl⟩:=hrel
    by_cases hlm:m < cs.size
    ·have hlm':(m:Int) < (cs.size:Int):=by omega
     have hm0:(0:Int) ≤ (m:Int):=by omega
     by_cases he:cs[m] = s[k]
     ·have hd:((s[k].toNat:Int) == (cs[m].toNat:Int)) = true:=by rw [he]; simp
      have HF:Hid (Blk.hasCtl s.data.toList = true):=Blk.hasCtl_take (k:=k + 1) (by rw [HT.out,Blk.hasCtl_snoc,isCtl_yes HCS.out m hlm he]; simp)
      have HE:=hide he
      clear he
      go_wp2
      go_quiet (fail)
      go_wp2
      go_ret
      exact ⟨by rw [HF.out]; rfl,_,World.drewN_drewN _ _ _⟩
     ·have hd:((s[k].toNat:Int) == (cs[m].toNat:Int)) = false:=by
       simp only [beq_eq_false_iff_ne,ne_eq]
       intro h
       exact he (UInt8.toNat_inj.1 (by omega))
      have HE:=hide he
      clear he
      go_wp2
      go_quiet (fail)
      go_wp2
      go_roundw
      case rel=>exact ⟨m + 1,by omega,by go_num,fun j hj h=>by
       by_cases hjm:j = m
       ·subst hjm; exact HE.out
       ·exact HM.out j hj (by omega),_,rfl⟩
      case measure=>simp [intOf]; omega
    ·have HC:Hid (Blk.isCtl s[k] = false):=isCtl_no HCS.out (fun j hj=>HM.out j hj (by omega))
     have hlm':¬ (m:Int) < (cs.size:Int):=by omega
     go_wp2
     go_roundw
     case rel=>exact ⟨k + 1,by omega,by go_num,by rw [Hid,HT.out,Blk.hasCtl_snoc,HN.out,HC.out]; rfl,_,rfl⟩
     case measure=>simp [intOf]; omega
  ·have HT:Hid (s.data.toList.take k = s.data.toList):=List.take_of_length_le (by simp; omega)
   go_wp2
   go_ret
   exact ⟨by rw [← HT.out,HN.out]; rfl,n,rfl⟩
theorem head_no (h:ByteArray):Blk.headOk h.data.toList = (!(Blk.hasCtl h.data.toList) && decide (h.size ≤ 8)):=by
 unfold Blk.headOk
 rw [size_list,Bool.and_comm]
theorem refused_any (h:ByteArray) (a:Option Addr) (l:List ByteArray) (cap:Nat) (c t:Bool) (w:World)
  (hh:h.size ≤ 140737488352000) (hl:∀ s ∈ l,s.size ≤ 140737488352000) (hn:l.length ≤ 140737488352000) (ht:Texts w a l) :
  Calls Tryz.prog 74 #[.agg #[.string h,.slice a l.length cap,.bool c,.bool t]] w fun e w'=>e = .returned (.int .i64 (Blk.berr h.data.toList (datas l) c)) ∧ Below w.heap.size w w':=by
 have HFB:Hid (∀ n,Below w.heap.size w ((w.alloc (.cells #[.string h,.slice a l.length cap,.bool c,.bool t] 57)).drewN n)):=fun n=>below_drewN ((Below.refl _ _).alloc (Nat.le_refl _) _) n
 cases hk:Blk.headOk h.data.toList
 ·have HE:Hid (Blk.berr h.data.toList (datas l) c = 2):=by simp [Hid,Blk.berr,hk]
  rw [head_no] at hk
  cases hc:Blk.hasCtl h.data.toList
  ·have h8:¬ h.size ≤ 8:=by rw [hc] at hk; simpa using hk
   have h8':8 < (h.size:Int):=by omega
   have HC:=hide hc
   clear hk hc
   go_enter Tryz.func74,Tryz.ntmps74
   go_wp2_with (first | (go_at_call 60; refine (plain_any h _ hh).mono ?_; rintro e w1 ⟨rfl,n1,rfl⟩; rw [HC.out]))
   go_ret
   exact ⟨by rw [HE.out]; rfl,HFB.out _⟩
  ·have HC:=hide hc
   clear hk hc
   go_enter Tryz.func74,Tryz.ntmps74
   go_wp2_with (first | (go_at_call 60; refine (plain_any h _ hh).mono ?_; rintro e w1 ⟨rfl,n1,rfl⟩; rw [HC.out]))
   go_ret
   exact ⟨by rw [HE.out]; rfl,HFB.out _⟩
 ·have HC:Hid (Blk.hasCtl h.data.toList = false):=by rw [head_no] at hk; simp at hk; exact hk.1
  have h8:h.size ≤ 8:=by rw [head_no] at hk; simp at hk; exact hk.2
  have h8':¬ 8 < (h.size:Int):=by omega
  by_cases hp:l.length < 1 ∨ 4 < l.length
  ·have HE:Hid (Blk.berr h.data.toList (datas l) c = 3):=by simp only [Hid,Blk.berr,hk,datas_length]; rw [if_neg (by simp),if_pos hp]
   clear hk
   rcases hp with hp | hp
   ·have hp':((l.length:Int) == 0) = true:=beq_iff_eq.2 (by omega)
    go_enter Tryz.func74,Tryz.ntmps74
    go_wp2_with (first | (go_at_call 60; refine (plain_any h _ hh).mono ?_; rintro e w1 ⟨rfl,n1,rfl⟩; rw [HC.out]))
    go_ret
    exact ⟨by rw [HE.out]; rfl,HFB.out _⟩
   ·have hp1:((l.length:Int) == 0) = false:=beq_eq_false_iff_ne.2 (by omega)
    have hp2:4 < (l.length:Int):=by omega
    go_enter Tryz.func74,Tryz.ntmps74
    go_wp2_with (first | (go_at_call 60; refine (plain_any h _ hh).mono ?_; rintro e w1 ⟨rfl,n1,rfl⟩; rw [HC.out]))
    go_ret
    exact ⟨by rw [HE.out]; rfl,HFB.out _⟩
  ·have hp1:((l.length:Int) == 0) = false:=beq_eq_false_iff_ne.2 (by omega)
   have hp2:decide (4 < (l.length:Int)) = false:=by simp; omega
   have hp3:l.length ≤ 4:=by omega
   have HE:Hid (Blk.berr h.data.toList (datas l) c = if (datas l).all (Blk.partOk c) = false then 4 else 0):=by simp only [Hid,Blk.berr,hk,datas_length]; rw [if_neg (by simp),if_neg hp]
   obtain ⟨b,o,rfl,hcell⟩:∃ b o,a = some ⟨b,o,none⟩ ∧ ∀ i,i < l.length → w.cell? ⟨b,o + i,none⟩ = some (.string (l.getD i ByteArray.empty)):=by
    rcases ht with h | h
    ·subst h; simp at hp
    ·exact h
   clear hk hp ht
   have d8:decide (8 < (h.size:Int)) = false:=by simp; omega
   have HCL:=hide hcell
   have HLL:=hide hl
   clear hcell hl
   go_enter Tryz.func74,Tryz.ntmps74
   go_wp2_with (first | (go_at_call 60; refine (plain_any h _ hh).mono ?_; rintro e w1 ⟨rfl,n1,rfl⟩; rw [HC.out]))
   go_loopw [4] (fun i wr=>∃ k:Nat,k ≤ l.length ∧ i = .int .i64 k ∧ Hid (((datas l).take k).all (Blk.partOk c) = true) ∧ BlkAt wr w.heap.size (.string h) (.slice (some ⟨b,o,none⟩) l.length cap) (.bool c) (.bool t) ∧ Below w.heap.size w wr) (fun i _=>l.length - (intOf i).toNat)
   case atStart=>exact ⟨0,by omega,rfl,by simp [Hid],BlkAt.new _ _ _ _ _,HFB.out _⟩
   case round =>
    obtain ⟨k,hk2,rfl,HA,hblk,hbel⟩:=hrel
    have c1:=hblk.cell1
    have c2:=hblk.cell2
    by_cases hlt:k < l.length
    ·have hcl:=HCL.out k hlt
     have hb:=World.block_lt_of_cell? w _ hcl
     rw [← hbel.cell hb] at hcl
     have hsz:(l.getD k ByteArray.empty).size ≤ 140737488352000:=by
      have:l.getD k ByteArray.empty = l[k]:=by simp [List.getD,List.getElem?_eq_getElem hlt]
      rw [this]; exact HLL.out _ (List.getElem_mem hlt)
     have HT:=hide (all_take_succ (Blk.partOk c) (datas l) k (by rw [datas_length]; exact hlt))
     rw [datas_getD] at HT
     generalize l.getD k ByteArray.empty = s at *
     have hlt':(k:Int) < (l.length:Int):=by omega
     have HPO:Hid (Blk.partOk c s.data.toList = (decide (s.size ≤ 32) && (c || !Blk.hasCtl s.data.toList))):=by unfold Hid Blk.partOk; rw [size_list]
     have HNO:Hid (Blk.partOk c s.data.toList = false → Blk.berr h.data.toList (datas l) c = 4):=by
      intro hpo
      have h1:((datas l).take (k + 1)).all (Blk.partOk c) = false:=by rw [HT.out,hpo]; simp
      have h5:(datas l).all (Blk.partOk c) = false:=by
       cases h2:(datas l).all (Blk.partOk c)
       ·rfl
       ·have h3:=List.all_eq_true.1 h2
        have h4:((datas l).take (k + 1)).all (Blk.partOk c) = true:=List.all_eq_true.2 fun x hx=>h3 x (List.mem_of_mem_take hx)
        rw [h1] at h4; cases h4
      rw [HE.out,h5]; rfl
     cases hct:Blk.hasCtl s.data.toList
     ·have HCT:=hide hct
      clear hct
      by_cases h32:s.size ≤ 32
      ·have h32':¬ 32 < (s.size:Int):=by omega
       have HY:Hid (Blk.partOk c s.data.toList = true):=by rw [Hid,HPO.out,HCT.out]; simp [h32]
       go_wp2_with (first | (go_at_call 60; refine (plain_any s _ hsz).mono ?_; rintro e w1 ⟨rfl,n1,rfl⟩; rw [HCT.out]))
       go_roundw
       case rel=>exact ⟨k + 1,by omega,by go_num,by rw [Hid,HT.out,HA.out,HY.out]; rfl,hblk,below_drewN hbel _⟩
       case measure=>simp [intOf]; omega
      ·have h32':32 < (s.size:Int):=by omega
       have HY:Hid (Blk.partOk c s.data.toList = false):=by rw [Hid,HPO.out]; simp [h32]
       go_wp2_with (first | (go_at_call 60; refine (plain_any s _ hsz).mono ?_; rintro e w1 ⟨rfl,n1,rfl⟩; rw [HCT.out]))
       go_ret
       exact ⟨by rw [HNO.out HY.out]; rfl,below_drewN hbel _⟩
     ·have HCT:=hide hct
      clear hct
      by_cases h32:s.size ≤ 32
      ·have h32':¬ 32 < (s.size:Int):=by omega
       cases c
       ·have HY:Hid (Blk.partOk false s.data.toList = false):=by rw [Hid,HPO.out,HCT.out]; simp
        go_wp2_with (first | (go_at_call 60; refine (plain_any s _ hsz).mono ?_; rintro e w1 ⟨rfl,n1,rfl⟩; rw [HCT.out]))
        go_ret
        exact ⟨by rw [HNO.out HY.out]; rfl,below_drewN hbel _⟩
       ·have HY:Hid (Blk.partOk true s.data.toList = true):=by rw [Hid,HPO.out]; simp [h32]
        go_wp2_with (first | (go_at_call 60; refine (plain_any s _ hsz).mono ?_; rintro e w1 ⟨rfl,n1,rfl⟩; rw [HCT.out]))
        go_roundw
        case rel=>exact ⟨k + 1,by omega,by go_num,by rw [Hid,HT.out,HA.out,HY.out]; rfl,hblk,below_drewN hbel _⟩
        case measure=>simp [intOf]; omega
      ·have h32':32 < (s.size:Int):=by omega
       have HY:Hid (Blk.partOk c s.data.toList = false):=by rw [Hid,HPO.out]; simp [h32]
       go_wp2_with (first | (go_at_call 60; refine (plain_any s _ hsz).mono ?_; rintro e w1 ⟨rfl,n1,rfl⟩; rw [HCT.out]))
       go_ret
       exact ⟨by rw [HNO.out HY.out]; rfl,below_drewN hbel _⟩
    ·obtain rfl:k = l.length:=by omega
     have hlt':¬ (l.length:Int) < (l.length:Int):=by omega
     go_wp2
     go_ret
     refine ⟨?_,hbel⟩
     have hal:(datas l).all (Blk.partOk c) = true:=by
      have:=HA.out
      rw [List.take_of_length_le (by rw [datas_length]; omega)] at this
      exact this
     rw [HE.out,hal]
     rfl
theorem is_one (s:ByteArray) (k:Nat) (h:k < s.size):Is (s.extract k (k + 1)) [s[k]]:=by
 have hd:(s.extract k (k + 1)).data.toList = [s[k]]:=by
  rw [Go.Lib.extract_data,show k + 1 - k = 1 by omega]
  have h':k < s.data.toList.length:=by simpa using h
  rw [List.drop_eq_getElem_cons h']
  rfl
 have:=Is.self (s.extract k (k + 1))
 rw [hd] at this
 exact this
theorem dbl_two (l:List UInt8) (u:UInt8) (h:u.toNat = 16):Blk.dbl (l ++ [u]) = Blk.dbl l ++ [u] ++ [16]:=by
 have e:u = 16:=UInt8.toNat_inj.1 h
 subst e
 simp [Blk.dbl_snoc]
theorem dbl_one (l:List UInt8) (u:UInt8) (h:¬ u.toNat = 16):Blk.dbl (l ++ [u]) = Blk.dbl l ++ [u]:=by simp [Blk.dbl_snoc,h]
theorem doubled_any (s:ByteArray) (w:World) (hs:s.size ≤ 32) :
  Calls Tryz.prog 97 #[.string s] w fun e w'=>∃ r,e = .returned (.string r) ∧ Hid (Is r (Blk.dbl s.data.toList)) ∧ r.size ≤ 64 ∧ w' = w:=by
 go_enter Tryz.func97,Tryz.ntmps97
 go_wp2
 go_loop [3,4] (fun v i=>∃ (k:Nat) (r:ByteArray),k ≤ s.size ∧ i = .int .i64 k ∧ v = .string r ∧ Hid (Is r (Blk.dbl (s.data.toList.take k)))) (fun _ i=>s.size - (intOf i).toNat)
 case atStart=>exact ⟨0,_,by omega,rfl,rfl,rfl⟩
 case round =>
  obtain ⟨k,r,hk,rfl,rfl,HR⟩:=hrel
  have hz:r.size ≤ 64:=by
   rw [HR.out.size]
   have h1:=Blk.dbl_length (s.data.toList.take k)
   have h2:(s.data.toList.take k).length ≤ k:=List.length_take_le _ _
   omega
  by_cases hlt:k < s.size
  ·have HT:=hide (take_snoc s k hlt)
   have HO:=hide (is_one s k hlt)
   have hlt':(k:Int) < (s.size:Int):=by omega
   by_cases h16:s[k].toNat = 16
   ·have HS:=hide (dbl_two (s.data.toList.take k) s[k] h16)
    have hd:((s[k].toNat:Int) == 16) = true:=by simp [h16]
    clear h16
    go_wp2
    go_round
    case rel=>exact ⟨k + 1,_,by omega,by go_num,rfl,by rw [Hid,HT.out,HS.out]; exact (HR.out.append HO.out).append (Is.mk [16])⟩
    case measure=>simp [intOf]; omega
   ·have HS:=hide (dbl_one (s.data.toList.take k) s[k] h16)
    have hd:((s[k].toNat:Int) == 16) = false:=by simp; omega
    clear h16
    go_wp2
    go_round
    case rel=>exact ⟨k + 1,_,by omega,by go_num,rfl,by rw [Hid,HT.out,HS.out]; exact HR.out.append HO.out⟩
    case measure=>simp [intOf]; omega
  ·have HT:Hid (s.data.toList.take k = s.data.toList):=List.take_of_length_le (by simp; omega)
   go_wp2
   go_ret
   exact ⟨_,rfl,by rw [← HT.out]; exact HR,hz,rfl⟩
theorem refSum_is (s:ByteArray) (k:Int) (w:World) (hs:s.size ≤ 1000000000000) (hk:k = 0 ∨ k = 1) :
  Calls Tryz.prog 40 #[.string s,.int .i64 k] w fun e w'=>∃ r,e = .returned (.tuple #[.string r,.int .i64 0]) ∧ Hid (Is r (Crc.sumS k s.data.toList)) ∧ r.size ≤ 2 ∧ Below w.heap.size w w':=by
 have h:=refSum_any s k w hs
 have e:Crc.sumE k = 0:=by rcases hk with rfl | rfl <;> rfl
 rw [e] at h
 exact h.mono fun e w' ⟨he,hb⟩=>⟨_,he,Is.mk _,by rw [(Is.mk _).size]; exact Blk.sumS_length k _,hb⟩
def cur (h:List UInt8) (ps:List (List UInt8)) (c t:Bool) (k:Int) (j:Nat):List UInt8:=if j = 0 then Blk.openL h c else Blk.bodyTo h ps c t k j
def curN (h:List UInt8) (ps:List (List UInt8)) (c t:Bool) (k:Int) (j:Nat):Nat:=if j = 0 then 0 else (Blk.bodyTo h ps c t k j).length
theorem curN_le (h:List UInt8) (ps:List (List UInt8)) (c t:Bool) (k:Int) (j:Nat):curN h ps c t k j ≤ (cur h ps c t k j).length:=by
 unfold curN cur
 split <;> omega
theorem cur_drop (h:List UInt8) (ps:List (List UInt8)) (c t:Bool) (k:Int) (j:Nat) (r:List UInt8) :
  (cur h ps c t k j ++ r).drop (curN h ps c t k j) = (if j = 0 then Blk.openL h c else []) ++ r:=by
 unfold curN cur
 split
 ·simp
 ·simp
theorem cur_length (h:List UInt8) (ps:List (List UInt8)) (c t:Bool) (k:Int) (hh:h.length ≤ 8) (hm:∀ i,(ps.getD i []).length ≤ 32) (j:Nat) (hj:j ≤ 4):(cur h ps c t k j).length ≤ 1000:=by
 unfold cur
 have h0:=Blk.openL_length h c
 have h1:=Blk.bodyTo_length h ps c t k 32 hm j
 have h2:j * (h.length + 2 * 32 + 7) ≤ 4 * (8 + 2 * 32 + 7):=Nat.mul_le_mul hj (by omega)
 split <;> omega
theorem is_tail {x:ByteArray} {l:List UInt8} (h:Is x l) (n:Nat):Is (x.extract n x.size) (l.drop n):=by
 have hd:(x.extract n x.size).data.toList = l.drop n:=by
  rw [Go.Lib.extract_data,h.data,h.size]
  exact List.take_of_length_le (by simp)
 have:=Is.self (x.extract n x.size)
 rw [hd] at this
 exact this
/-- One part more. -/
theorem ref_step {h:List UInt8} {ps:List (List UInt8)} {c t:Bool} {k:Int} {j:Nat} {x r4:ByteArray} {e:List UInt8}
  (hxx:Is x (cur h ps c t k j ++ (Blk.txt c (ps.getD j []) ++ e))) (he:e = Blk.endL c t ps.length j)
  (h4:Is r4 (Crc.sumS k (x.extract (curN h ps c t k j) x.size).data.toList)) :
  Is (x ++ r4) (cur h ps c t k (j + 1)):=by
 have ht:=is_tail hxx (curN h ps c t k j)
 rw [cur_drop] at ht
 have hs:Blk.seg h ps c t j = (if j = 0 then Blk.openL h c else []) ++ (Blk.txt c (ps.getD j []) ++ e):=by rw [he]; rfl
 rw [← hs] at ht
 rw [ht.data] at h4
 have hb:cur h ps c t k j ++ (Blk.txt c (ps.getD j []) ++ e) = Blk.bodyTo h ps c t k j ++ Blk.seg h ps c t j:=by
  rw [hs]
  unfold cur
  split
  ·rename_i h0; subst h0; simp [Blk.bodyTo]
  ·simp
 rw [hb] at hxx
 have:=hxx.append h4
 unfold cur
 rw [if_neg (by omega)]
 unfold Blk.bodyTo
 rw [← List.append_assoc]
 exact this
theorem endL_f (t:Bool) (n i:Nat):Blk.endL false t n i = [Blk.endC t n i]:=rfl
theorem endL_t (t:Bool) (n i:Nat):Blk.endL true t n i = [16,Blk.endC t n i]:=rfl
theorem is_x0 {xs r2:ByteArray} {a b:List UInt8} {u:UInt8} (h1:Is xs a) (h2:Is r2 b):Is (xs ++ r2 ++ ⟨#[]⟩ ++ ⟨#[u]⟩) (a ++ (b ++ [u])):=by
 have:=((h1.append h2).append (Is.mk [])).append (Is.mk [u])
 simpa [List.append_assoc] using this
theorem is_x1 {xs r2:ByteArray} {a b:List UInt8} {u:UInt8} (h1:Is xs a) (h2:Is r2 b):Is (xs ++ r2 ++ ⟨#[16]⟩ ++ ⟨#[u]⟩) (a ++ (b ++ [16,u])):=by
 have:=((h1.append h2).append (Is.mk [16])).append (Is.mk [u])
 simpa [List.append_assoc] using this
theorem open_cases (h:ByteArray) (c:Bool) :
  (¬ 0 < (h.size:Int) ∧ decide (0 < h.size) = false ∧ c = false ∧ Hid (Is (⟨#[]⟩ ++ ⟨#[]⟩ ++ ⟨#[2]⟩) (Blk.openL h.data.toList c))) ∨
  (¬ 0 < (h.size:Int) ∧ decide (0 < h.size) = false ∧ c = true ∧ Hid (Is (⟨#[]⟩ ++ ⟨#[16]⟩ ++ ⟨#[2]⟩) (Blk.openL h.data.toList c))) ∨
  (0 < (h.size:Int) ∧ decide (0 < h.size) = true ∧ c = false ∧ Hid (Is (⟨#[1]⟩ ++ h ++ ⟨#[]⟩ ++ ⟨#[2]⟩) (Blk.openL h.data.toList c))) ∨
  (0 < (h.size:Int) ∧ decide (0 < h.size) = true ∧ c = true ∧ Hid (Is (⟨#[1]⟩ ++ h ++ ⟨#[16]⟩ ++ ⟨#[2]⟩) (Blk.openL h.data.toList c))):=by
 by_cases he:h.size = 0
 ·have hn:h.data.toList = []:=List.eq_nil_of_length_eq_zero (by rw [size_list]; exact he)
  cases c
  ·exact Or.inl ⟨by omega,by simp [he],rfl,by rw [Hid,hn]; rfl⟩
  ·exact Or.inr (Or.inl ⟨by omega,by simp [he],rfl,by rw [Hid,hn]; rfl⟩)
 ·have hn:¬ h.data.toList = []:=fun e=>he (by rw [← size_list,e]; rfl)
  cases c
  ·refine Or.inr (Or.inr (Or.inl ⟨by omega,by simp; omega,rfl,?_⟩))
   have:=(((Is.mk [1]).append (Is.self h)).append (Is.mk [])).append (Is.mk [2])
   simpa [Hid,Blk.openL,hn] using this
  ·refine Or.inr (Or.inr (Or.inr ⟨by omega,by simp; omega,rfl,?_⟩))
   have:=(((Is.mk [1]).append (Is.self h)).append (Is.mk [16])).append (Is.mk [2])
   simpa [Hid,Blk.openL,hn] using this
theorem endC_mid (t:Bool) (n j:Nat) (h:j + 1 < n):Blk.endC t n j = 31:=by simp [Blk.endC,h]
theorem endC_last (n j:Nat) (h:¬ j + 1 < n):Blk.endC true n j = 3:=by simp [Blk.endC,h]
theorem endC_more (n j:Nat) (h:¬ j + 1 < n):Blk.endC false n j = 23:=by simp [Blk.endC,h]
theorem curN_of {h:List UInt8} {ps:List (List UInt8)} {c t:Bool} {k:Int} {j:Nat} {x:ByteArray} (hx:Is x (cur h ps c t k (j + 1))):x.size = curN h ps c t k (j + 1):=by
 rw [hx.size]
 unfold cur curN
 rw [if_neg (by omega),if_neg (by omega)]
theorem size_f (xs st:ByteArray) (u:UInt8):(xs ++ st ++ ⟨#[]⟩ ++ ⟨#[u]⟩).size = xs.size + st.size + 1:=by
 simp only [ByteArray.size_append]; rfl
theorem size_t (xs st:ByteArray) (u:UInt8):(xs ++ st ++ ⟨#[16]⟩ ++ ⟨#[u]⟩).size = xs.size + st.size + 1 + 1:=by
 simp only [ByteArray.size_append]; rfl
/-- One part more,in the shapes in which the walk leaves it. -/
theorem ref_f {h:List UInt8} {ps:List (List UInt8)} {t:Bool} {k:Int} {j:Nat} {xs st r4:ByteArray} {u:UInt8} {n:Nat}
  (hx:Is xs (cur h ps false t k j)) (hst:ps.getD j [] = st.data.toList) (hu:Blk.endC t ps.length j = u) (hn:n = curN h ps false t k j)
  (h4:Is r4 (Crc.sumS k ((xs ++ st ++ ⟨#[]⟩ ++ ⟨#[u]⟩).extract n (xs.size + st.size + 1)).data.toList)) :
  Is (xs ++ st ++ ⟨#[]⟩ ++ ⟨#[u]⟩ ++ r4) (cur h ps false t k (j + 1)) ∧ xs.size + st.size + 1 + r4.size = curN h ps false t k (j + 1):=by
 subst hn
 have hr:Is (xs ++ st ++ ⟨#[]⟩ ++ ⟨#[u]⟩ ++ r4) (cur h ps false t k (j + 1)) :=
  ref_step (e:=[u]) (is_x0 hx (by rw [hst]; exact Is.self st)) (by rw [endL_f,hu]) (by rw [size_f]; exact h4)
 exact ⟨hr,by rw [← curN_of hr,ByteArray.size_append,size_f]⟩
theorem ref_t {h:List UInt8} {ps:List (List UInt8)} {t:Bool} {k:Int} {j:Nat} {xs st r2 r4:ByteArray} {u:UInt8} {n:Nat}
  (hx:Is xs (cur h ps true t k j)) (hst:ps.getD j [] = st.data.toList) (h2:Is r2 (Blk.dbl st.data.toList)) (hu:Blk.endC t ps.length j = u) (hn:n = curN h ps true t k j)
  (h4:Is r4 (Crc.sumS k ((xs ++ r2 ++ ⟨#[16]⟩ ++ ⟨#[u]⟩).extract n (xs.size + r2.size + 1 + 1)).data.toList)) :
  Is (xs ++ r2 ++ ⟨#[16]⟩ ++ ⟨#[u]⟩ ++ r4) (cur h ps true t k (j + 1)) ∧ xs.size + r2.size + 1 + 1 + r4.size = curN h ps true t k (j + 1):=by
 subst hn
 have hr:Is (xs ++ r2 ++ ⟨#[16]⟩ ++ ⟨#[u]⟩ ++ r4) (cur h ps true t k (j + 1)) :=
  ref_step (e:=[16,u]) (is_x1 hx (by rw [hst]; exact h2)) (by rw [endL_t,hu]) (by rw [size_t]; exact h4)
 exact ⟨hr,by rw [← curN_of hr,ByteArray.size_append,size_t]⟩
theorem open_false (h:ByteArray) :
  (¬ 0 < (h.size:Int) ∧ decide (0 < h.size) = false ∧ Hid (Is (⟨#[]⟩ ++ ⟨#[]⟩ ++ ⟨#[2]⟩) (Blk.openL h.data.toList false))) ∨
  (0 < (h.size:Int) ∧ decide (0 < h.size) = true ∧ Hid (Is (⟨#[1]⟩ ++ h ++ ⟨#[]⟩ ++ ⟨#[2]⟩) (Blk.openL h.data.toList false))):=by
 rcases open_cases h false with ⟨a,b,c,d⟩ | ⟨a,b,c,d⟩ | ⟨a,b,c,d⟩ | ⟨a,b,c,d⟩
 all_goals first | (cases c; done) | exact Or.inl ⟨a,b,d⟩ | exact Or.inr ⟨a,b,d⟩
theorem bodyOf_false (h:ByteArray) (b o:Nat) (l:List ByteArray) (cap:Nat) (t:Bool) (k:Int) (w:World)
  (hk:k = 0 ∨ k = 1) (hh:h.size ≤ 8) (hl:∀ i,(l.getD i ByteArray.empty).size ≤ 32) (hn:l.length ≤ 4) (hn1:1 ≤ l.length)
  (ht:∀ i,i < l.length → w.cell? ⟨b,o + i,none⟩ = some (.string (l.getD i ByteArray.empty))) :
  Calls Tryz.prog 75 #[.agg #[.string h,.slice (some ⟨b,o,none⟩) l.length cap,.bool false,.bool t],.int .i64 k] w fun e w'=>∃ r,e = .returned (.string r) ∧ Hid (Is r (Blk.body h.data.toList (datas l) false t k)) ∧ r.size ≤ 1000 ∧ Below w.heap.size w w':=by
 have HBK:=hide (BlkAt.new w (.string h) (.slice (some ⟨b,o,none⟩) l.length cap) (.bool false) (.bool t))
 have HB0:Hid (Below w.heap.size w (w.alloc (.cells #[.string h,.slice (some ⟨b,o,none⟩) l.length cap,.bool false,.bool t] 57))):=(Below.refl _ _).alloc (Nat.le_refl _) _
 have HT:=hide ht
 have HL:=hide hl
 have HK:=hide hk
 have HCL:=hide (cur_length h.data.toList (datas l) false t k (by rw [size_list]; exact hh) (fun i=>by rw [datas_getD,size_list]; exact hl i))
 have HFIN:Hid (cur h.data.toList (datas l) false t k l.length = Blk.body h.data.toList (datas l) false t k):=by
  unfold Hid cur Blk.body
  rw [if_neg (by omega),datas_length]
 clear ht hl hk
 rcases open_false h with ⟨hz,hz2,HO⟩ | ⟨hz,hz2,HO⟩
 all_goals
  go_enter Tryz.func75,Tryz.ntmps75
  go_wp2
  go_loopw [5,7,8] (fun x m i wr=>∃ (j n:Nat) (xs:ByteArray),j ≤ l.length ∧ i = .int .i64 j ∧ m = .int .i64 n ∧ x = .string xs ∧ Hid (Is xs (cur h.data.toList (datas l) false t k j)) ∧ Hid (n = curN h.data.toList (datas l) false t k j) ∧ BlkAt wr w.heap.size (.string h) (.slice (some ⟨b,o,none⟩) l.length cap) (.bool false) (.bool t) ∧ Below w.heap.size w wr) (fun _ _ i _=>l.length - (intOf i).toNat)
  case atStart=>exact ⟨0,0,_,by omega,rfl,rfl,rfl,HO,rfl,HBK.out,HB0.out⟩
  case round =>
   obtain ⟨j,n,xs,hj,rfl,rfl,rfl,HX,HN,hblk,hbel⟩:=hrel
   have f1:=hblk.cell1
   have f2:=hblk.cell2
   have f3:=hblk.cell3
   have hxs:xs.size ≤ 1000:=by rw [HX.out.size]; exact HCL.out j (by omega)
   have hnx:n ≤ xs.size:=by rw [HN.out,HX.out.size]; exact curN_le _ _ _ _ _ _
   by_cases hlt:j < l.length
   ·have hcl:=HT.out j hlt
    have hbb:=World.block_lt_of_cell? w _ hcl
    rw [← hbel.cell hbb] at hcl
    have hg:=HL.out j
    have hlt':(j:Int) < (l.length:Int):=by omega
    generalize hst:l.getD j ByteArray.empty = st at *
    have HST:=hide hst
    clear hst
    by_cases hm:j + 1 < l.length
    ·have HU:=hide (endC_mid t l.length j hm)
     have hm':((j:Int) == (l.length:Int) - 1) = false:=beq_eq_false_iff_ne.2 (by omega)
     go_wp2_with (first | (go_at_call 40; refine (refSum_is _ k _ ?_ HK.out).mono ?_; (simp; omega); rintro e w4 ⟨r4,rfl,HR4,hr4,hb4⟩))
     go_roundw
     case rel=>have hr:=ref_f HX.out (by rw [datas_getD,HST.out]) (by rw [datas_length]; exact HU.out) HN.out HR4.out; exact ⟨j + 1,xs.size + st.size + 1 + r4.size,_,by omega,by go_num,by go_num,rfl,hr.1,hr.2,hblk.below hb4 (lt_of_block hblk),below_step hbel hb4⟩
     case measure=>simp [intOf]; omega
    ·have hm':((j:Int) == (l.length:Int) - 1) = true:=beq_iff_eq.2 (by omega)
     cases t
     ·have HU:=hide (endC_more l.length j hm)
      go_wp2_with (first | (go_at_call 40; refine (refSum_is _ k _ ?_ HK.out).mono ?_; (simp; omega); rintro e w4 ⟨r4,rfl,HR4,hr4,hb4⟩))
      go_roundw
      case rel=>have hr:=ref_f HX.out (by rw [datas_getD,HST.out]) (by rw [datas_length]; exact HU.out) HN.out HR4.out; exact ⟨j + 1,xs.size + st.size + 1 + r4.size,_,by omega,by go_num,by go_num,rfl,hr.1,hr.2,hblk.below hb4 (lt_of_block hblk),below_step hbel hb4⟩
      case measure=>simp [intOf]; omega
     ·have HU:=hide (endC_last l.length j hm)
      go_wp2_with (first | (go_at_call 40; refine (refSum_is _ k _ ?_ HK.out).mono ?_; (simp; omega); rintro e w4 ⟨r4,rfl,HR4,hr4,hb4⟩))
      go_roundw
      case rel=>have hr:=ref_f HX.out (by rw [datas_getD,HST.out]) (by rw [datas_length]; exact HU.out) HN.out HR4.out; exact ⟨j + 1,xs.size + st.size + 1 + r4.size,_,by omega,by go_num,by go_num,rfl,hr.1,hr.2,hblk.below hb4 (lt_of_block hblk),below_step hbel hb4⟩
      case measure=>simp [intOf]; omega
   ·obtain rfl:j = l.length:=by omega
    have hlt':¬ (l.length:Int) < (l.length:Int):=by omega
    go_wp2
    go_ret
    exact ⟨_,rfl,by rw [← HFIN.out]; exact HX,hxs,hbel⟩
theorem open_true (h:ByteArray) :
  (¬ 0 < (h.size:Int) ∧ decide (0 < h.size) = false ∧ Hid (Is (⟨#[]⟩ ++ ⟨#[16]⟩ ++ ⟨#[2]⟩) (Blk.openL h.data.toList true))) ∨
  (0 < (h.size:Int) ∧ decide (0 < h.size) = true ∧ Hid (Is (⟨#[1]⟩ ++ h ++ ⟨#[16]⟩ ++ ⟨#[2]⟩) (Blk.openL h.data.toList true))):=by
 rcases open_cases h true with ⟨a,b,c,d⟩ | ⟨a,b,c,d⟩ | ⟨a,b,c,d⟩ | ⟨a,b,c,d⟩
 all_goals first | (cases c; done) | exact Or.inl ⟨a,b,d⟩ | exact Or.inr ⟨a,b,d⟩
theorem bodyOf_true (h:ByteArray) (b o:Nat) (l:List ByteArray) (cap:Nat) (t:Bool) (k:Int) (w:World)
  (hk:k = 0 ∨ k = 1) (hh:h.size ≤ 8) (hl:∀ i,(l.getD i ByteArray.empty).size ≤ 32) (hn:l.length ≤ 4) (hn1:1 ≤ l.length)
  (ht:∀ i,i < l.length → w.cell? ⟨b,o + i,none⟩ = some (.string (l.getD i ByteArray.empty))) :
  Calls Tryz.prog 75 #[.agg #[.string h,.slice (some ⟨b,o,none⟩) l.length cap,.bool true,.bool t],.int .i64 k] w fun e w'=>∃ r,e = .returned (.string r) ∧ Hid (Is r (Blk.body h.data.toList (datas l) true t k)) ∧ r.size ≤ 1000 ∧ Below w.heap.size w w':=by
 have HBK:=hide (BlkAt.new w (.string h) (.slice (some ⟨b,o,none⟩) l.length cap) (.bool true) (.bool t))
 have HB0:Hid (Below w.heap.size w (w.alloc (.cells #[.string h,.slice (some ⟨b,o,none⟩) l.length cap,.bool true,.bool t] 57))):=(Below.refl _ _).alloc (Nat.le_refl _) _
 have HT:=hide ht
 have HL:=hide hl
 have HK:=hide hk
 have HCL:=hide (cur_length h.data.toList (datas l) true t k (by rw [size_list]; exact hh) (fun i=>by rw [datas_getD,size_list]; exact hl i))
 have HFIN:Hid (cur h.data.toList (datas l) true t k l.length = Blk.body h.data.toList (datas l) true t k):=by
  unfold Hid cur Blk.body
  rw [if_neg (by omega),datas_length]
 clear ht hl hk
 rcases open_true h with ⟨hz,hz2,HO⟩ | ⟨hz,hz2,HO⟩
 all_goals
  go_enter Tryz.func75,Tryz.ntmps75
  go_wp2
  go_loopw [5,7,8] (fun x m i wr=>∃ (j n:Nat) (xs:ByteArray),j ≤ l.length ∧ i = .int .i64 j ∧ m = .int .i64 n ∧ x = .string xs ∧ Hid (Is xs (cur h.data.toList (datas l) true t k j)) ∧ Hid (n = curN h.data.toList (datas l) true t k j) ∧ BlkAt wr w.heap.size (.string h) (.slice (some ⟨b,o,none⟩) l.length cap) (.bool true) (.bool t) ∧ Below w.heap.size w wr) (fun _ _ i _=>l.length - (intOf i).toNat)
  case atStart=>exact ⟨0,0,_,by omega,rfl,rfl,rfl,HO,rfl,HBK.out,HB0.out⟩
  case round =>
   obtain ⟨j,n,xs,hj,rfl,rfl,rfl,HX,HN,hblk,hbel⟩:=hrel
   have f1:=hblk.cell1
   have f2:=hblk.cell2
   have f3:=hblk.cell3
   have hxs:xs.size ≤ 1000:=by rw [HX.out.size]; exact HCL.out j (by omega)
   have hnx:n ≤ xs.size:=by rw [HN.out,HX.out.size]; exact curN_le _ _ _ _ _ _
   by_cases hlt:j < l.length
   ·have hcl:=HT.out j hlt
    have hbb:=World.block_lt_of_cell? w _ hcl
    rw [← hbel.cell hbb] at hcl
    have hg:=HL.out j
    have hlt':(j:Int) < (l.length:Int):=by omega
    generalize hst:l.getD j ByteArray.empty = st at *
    have HST:=hide hst
    clear hst
    by_cases hm:j + 1 < l.length
    ·have HU:=hide (endC_mid t l.length j hm)
     have hm':((j:Int) == (l.length:Int) - 1) = false:=beq_eq_false_iff_ne.2 (by omega)
     go_wp2_with (first | (go_at_call 97; refine (doubled_any st _ hg).mono ?_; rintro e w2 ⟨r2,rfl,HR2,hr2,rfl⟩) | (go_at_call 40; refine (refSum_is _ k _ ?_ HK.out).mono ?_; (simp; omega); rintro e w4 ⟨r4,rfl,HR4,hr4,hb4⟩))
     go_roundw
     case rel=>have hr:=ref_t HX.out (by rw [datas_getD,HST.out]) HR2.out (by rw [datas_length]; exact HU.out) HN.out HR4.out; exact ⟨j + 1,xs.size + r2.size + 1 + 1 + r4.size,_,by omega,by go_num,by go_num,rfl,hr.1,hr.2,hblk.below hb4 (lt_of_block hblk),below_step hbel hb4⟩
     case measure=>simp [intOf]; omega
    ·have hm':((j:Int) == (l.length:Int) - 1) = true:=beq_iff_eq.2 (by omega)
     cases t
     ·have HU:=hide (endC_more l.length j hm)
      go_wp2_with (first | (go_at_call 97; refine (doubled_any st _ hg).mono ?_; rintro e w2 ⟨r2,rfl,HR2,hr2,rfl⟩) | (go_at_call 40; refine (refSum_is _ k _ ?_ HK.out).mono ?_; (simp; omega); rintro e w4 ⟨r4,rfl,HR4,hr4,hb4⟩))
      go_roundw
      case rel=>have hr:=ref_t HX.out (by rw [datas_getD,HST.out]) HR2.out (by rw [datas_length]; exact HU.out) HN.out HR4.out; exact ⟨j + 1,xs.size + r2.size + 1 + 1 + r4.size,_,by omega,by go_num,by go_num,rfl,hr.1,hr.2,hblk.below hb4 (lt_of_block hblk),below_step hbel hb4⟩
      case measure=>simp [intOf]; omega
     ·have HU:=hide (endC_last l.length j hm)
      go_wp2_with (first | (go_at_call 97; refine (doubled_any st _ hg).mono ?_; rintro e w2 ⟨r2,rfl,HR2,hr2,rfl⟩) | (go_at_call 40; refine (refSum_is _ k _ ?_ HK.out).mono ?_; (simp; omega); rintro e w4 ⟨r4,rfl,HR4,hr4,hb4⟩))
      go_roundw
      case rel=>have hr:=ref_t HX.out (by rw [datas_getD,HST.out]) HR2.out (by rw [datas_length]; exact HU.out) HN.out HR4.out; exact ⟨j + 1,xs.size + r2.size + 1 + 1 + r4.size,_,by omega,by go_num,by go_num,rfl,hr.1,hr.2,hblk.below hb4 (lt_of_block hblk),below_step hbel hb4⟩
      case measure=>simp [intOf]; omega
   ·obtain rfl:j = l.length:=by omega
    have hlt':¬ (l.length:Int) < (l.length:Int):=by omega
    go_wp2
    go_ret
    exact ⟨_,rfl,by rw [← HFIN.out]; exact HX,hxs,hbel⟩
end Go.Proofs.YtlbpjcphhocdkaaGreat
