/- A line of every configuration comes out just where the document says so, and its stations are the document's. The document's line by the model's: New, Look, OnLine. A line is opened, and looked at. A line of a .. -/
import Derived.Test.YtlbpjcphhocdkaaGreatQ45
import Derived.Laws.StructEq
import Derived.Test.YtlbpjcphhocdkaaGreatQ36
set_option maxRecDepth 1000000
set_option maxHeartbeats 16000000
namespace Go.Proofs.YtlbpjcphhocdkaaGreat
open Go.RowKit Go.Proofs.YtlbpjcphhocdkaaGreat.Mod Go.Proofs.YtlbpjcphhocdkaaGreat.Pst
theorem guardView:Tryz.prog.eqGuardType Tryz.prog.depth 83 = false:=by kernel_rfl
theorem eqView (a b a' b':Int) (c c':Bool) (w:World):(Op.equalIn 10000 83 (.agg #[.int .i64 a,.int .i64 b,.bool c]) (.agg #[.int .i64 a',.int .i64 b',.bool c'])).run Tryz.prog w = .ok (a == a' && (b == b' && c == c')) w:=by
 have u9:=Tryz.underlying3
 have a9:=Tryz.isAgg3
 have z9:=Tryz.sizeOf3
 have u4:=Tryz.underlying4
 have a4:=Tryz.isAgg4
 have z4:=Tryz.sizeOf4
 have hS:Tryz.prog.underlying 83 = some (.struct (Tryz.prog.fieldsOf 83)):=by kernel_rfl
 have hp:Tryz.prog.stoodInHeld 83 = false:=by kernel_rfl
 rw [show (10000:Nat) = 9999 + 1 from rfl,run_equalIn_agg w 9999 83 _ _ hS hp]
 simp only [Program.fieldsOf,Tryz.underlying83]
 go_simp
 by_cases h1:a = a' <;> by_cases h2:b = b' <;> by_cases h3:c = c' <;> simp [h1,h2,h3]
theorem eqView_same (a b:Int) (c:Bool) (w:World):(Op.equalIn 10000 83 (.agg #[.int .i64 a,.int .i64 b,.bool c]) (.agg #[.int .i64 a,.int .i64 b,.bool c])).run Tryz.prog w = .ok true w:=by
 rw [eqView]; simp
/-- A pair: a line,and the document's. -/
def PairAt (w:World) (g xb yb:Nat):Prop:=w.heap[g]? = some (.cells #[.pointer (some ⟨xb,0,none⟩),.pointer (some ⟨yb,0,none⟩)] 49 (0,0))
theorem seen_any (g xb yb:Nat) (st:Int) (m q:Int) (y:Bool) (w:World) (hp:PairAt w g xb yb)
  (h1:∀ w',Below w.heap.size w w' → Calls Tryz.prog 28 #[.pointer (some ⟨xb,0,none⟩),.int .i64 st] w' fun e w''=>e = .returned (.agg #[.int .i64 m,.int .i64 q,.bool y]) ∧ Below w'.heap.size w' w'')
  (h2:∀ w',Below w.heap.size w w' → Calls Tryz.prog 29 #[.pointer (some ⟨yb,0,none⟩),.int .i64 st] w' fun e w''=>e = .returned (.agg #[.int .i64 m,.int .i64 q,.bool y]) ∧ Below w'.heap.size w' w'') :
  Calls Tryz.prog 16 #[.pointer (some ⟨g,0,none⟩),.int .i64 st] w fun e w'=>e = .returned (.bool true) ∧ Below w.heap.size w w':=by
 have H1:=hide h1
 have H2:=hide h2
 have HP:=hide hp
 have hlt:=lt_of_block hp
 have c0:=(cells_at hp).1 0
 simp only [List.getElem?_toArray,List.getElem?_cons_zero] at c0
 clear h1 h2 hp
 go_enter Tryz.func16,Tryz.ntmps16
 go_wp2_with fail
 refine (H1.out _ (Below.refl _ _)).mono ?_
 rintro e w1 ⟨rfl,hb1⟩
 have HB1:=hide hb1
 have hp1:PairAt w1 g xb yb:=(hb1.block _ hlt).trans HP.out
 have c1:=(cells_at hp1).1 1
 simp only [List.getElem?_toArray,List.getElem?_cons_succ,List.getElem?_cons_zero] at c1
 have hlt1:=lt_of_block hp1
 have hne1:g ≠ w1.heap.size:=by omega
 clear hb1 c0
 go_wp2_with fail
 have X0:=VwAt.new w1 (.int .i64 m) (.int .i64 q) (.bool y)
 have HA:=hide (Below.allocN HB1.out (.cells #[.int .i64 m,.int .i64 q,.bool y] 83))
 generalize w1.alloc (.cells #[.int .i64 m,.int .i64 q,.bool y] 83) = W1 at *
 refine (H2.out _ HA.out).mono ?_
 rintro e w2 ⟨rfl,hb2⟩
 have hg1:=lt_of_block X0
 have X2:VwAt w2 w1.heap.size (.int .i64 m) (.int .i64 q) (.bool y):=(hb2.block _ hg1).trans X0
 have hg2:=lt_of_block X2
 have hne2:w1.heap.size ≠ w2.heap.size:=by omega
 have v0:w2.cell? ⟨w1.heap.size,0,none⟩ = some (.int .i64 m):=by unfold VwAt at X2; simp [World.cell?,X2]
 have v1:w2.cell? ⟨w1.heap.size,1,none⟩ = some (.int .i64 q):=by unfold VwAt at X2; simp [World.cell?,X2]
 have v2:w2.cell? ⟨w1.heap.size,2,none⟩ = some (.bool y):=by unfold VwAt at X2; simp [World.cell?,X2]
 have HB2:=hide (below_step HA.out hb2)
 have hq:=eqView_same m q y
 have hm:=guardView
 clear hb2 X0 X2 HA c1 hp1
 go_wp2
 go_ret
 exact ⟨rfl,Below.allocN HB2.out _⟩
theorem heard_pair (g xb yb:Nat) (st:Int) (s:ByteArray) (w:World) (hp:PairAt w g xb yb)
  (h1:∀ w',Below w.heap.size w w' → Calls Tryz.prog 30 #[.pointer (some ⟨xb,0,none⟩),.int .i64 st] w' fun e w''=>e = .returned (.string s) ∧ Below w'.heap.size w' w'')
  (h2:∀ w',Below w.heap.size w w' → Calls Tryz.prog 31 #[.pointer (some ⟨yb,0,none⟩),.int .i64 st] w' fun e w''=>e = .returned (.string s) ∧ Below w'.heap.size w' w'') :
  Calls Tryz.prog 17 #[.pointer (some ⟨g,0,none⟩),.int .i64 st] w fun e w'=>e = .returned (.bool true) ∧ Below w.heap.size w w':=by
 have H1:=hide h1
 have H2:=hide h2
 have HP:=hide hp
 have hlt:=lt_of_block hp
 have c0:=(cells_at hp).1 0
 simp only [List.getElem?_toArray,List.getElem?_cons_zero] at c0
 clear h1 h2 hp
 go_enter Tryz.func17,Tryz.ntmps17
 go_wp2_with fail
 refine (H1.out _ (Below.refl _ _)).mono ?_
 rintro e w1 ⟨rfl,hb1⟩
 have HB1:=hide hb1
 have hp1:PairAt w1 g xb yb:=(hb1.block _ hlt).trans HP.out
 have c1:=(cells_at hp1).1 1
 simp only [List.getElem?_toArray,List.getElem?_cons_succ,List.getElem?_cons_zero] at c1
 clear hb1 c0 hp1
 go_wp2_with fail
 refine (H2.out _ HB1.out).mono ?_
 rintro e w2 ⟨rfl,hb2⟩
 have HB2:=hide (below_step HB1.out hb2)
 clear hb2 c1
 go_wp2
 go_ret
 exact ⟨by simp,HB2.out⟩
theorem looks_any (g:Nat) (w:World)
  (h:∀ (st:Int) w',st = 0 ∨ st = 1 → Below w.heap.size w w' → (Calls Tryz.prog 16 #[.pointer (some ⟨g,0,none⟩),.int .i64 st] w' fun e w''=>e = .returned (.bool true) ∧ Below w'.heap.size w' w'') ∧ (Calls Tryz.prog 17 #[.pointer (some ⟨g,0,none⟩),.int .i64 st] w' fun e w''=>e = .returned (.bool true) ∧ Below w'.heap.size w' w'')) :
  Calls Tryz.prog 11 #[.pointer (some ⟨g,0,none⟩)] w fun e w'=>e = .returned (.bool true) ∧ Below w.heap.size w w':=by
 have H:=hide h
 clear h
 go_enter Tryz.func11,Tryz.ntmps11
 go_wp2_with fail
 refine ((H.out 0 _ (Or.inl rfl) (Below.refl _ _)).1).mono ?_
 rintro e w1 ⟨rfl,hb1⟩
 have HB1:=hide hb1
 clear hb1
 go_wp2_with fail
 refine ((H.out 1 _ (Or.inr rfl) HB1.out).1).mono ?_
 rintro e w2 ⟨rfl,hb2⟩
 have HB2:=hide (below_step HB1.out hb2)
 clear hb2
 go_wp2_with fail
 refine ((H.out 0 _ (Or.inl rfl) HB2.out).2).mono ?_
 rintro e w3 ⟨rfl,hb3⟩
 have HB3:=hide (below_step HB2.out hb3)
 clear hb3
 go_wp2_with fail
 refine ((H.out 1 _ (Or.inr rfl) HB3.out).2).mono ?_
 rintro e w4 ⟨rfl,hb4⟩
 have HB4:=hide (below_step HB3.out hb4)
 clear hb4
 go_wp2
 go_ret
 exact ⟨rfl,HB4.out⟩
theorem rnew_z (c:Cfg) (w:World) (hc:c.Ok) :
  Calls Tryz.prog 15 #[cfgV c] w fun e w'=>∃ yb,e = .returned (.tuple #[.pointer (some ⟨yb,0,none⟩),.int .i64 0]) ∧ RLn w' (New w) yb c 0 newRS newRS [] [] ∧ (∀ j,w'.frozen? ⟨yb,j,none⟩ = false) ∧ Below w.heap.size w w':=by
 have H:=hide (may_ok hc)
 clear hc
 unfold cfgV
 go_enter Tryz.func15,Tryz.ntmps15
 go_wp2_with fail
 refine (rmay_any _ _ _ _ _ _ _ _ _ _ _).mono ?_
 rintro e w1 ⟨rfl,hb1⟩
 rw [H.out]
 have X1:=hide ((CfgAt.new w c).below hb1)
 have B1:=hide (below_step ((Below.refl w.heap.size w).alloc (Nat.le_refl _) (.cells (cfgCells c) 26)) hb1)
 have hlt:=CfgAt.lt X1.out
 have XX:∀ a b d,CfgAt (((w1.alloc a).alloc b).alloc d) w.heap.size c:=fun a b d=>((X1.out.below (Below.allocN (Below.refl _ _) a)).below (Below.allocN (Below.refl _ _) b)).below (Below.allocN (Below.refl _ _) d)
 have k0:∀ a b d,(((w1.alloc a).alloc b).alloc d).cell? ⟨w.heap.size,0,none⟩ = some (.int .i64 c.check):=fun a b d=>(XX a b d).cell 0 (by omega)
 have k1:∀ a b d,(((w1.alloc a).alloc b).alloc d).cell? ⟨w.heap.size,1,none⟩ = some (.int .i64 c.size):=fun a b d=>(XX a b d).cell 1 (by omega)
 have k2:∀ a b d,(((w1.alloc a).alloc b).alloc d).cell? ⟨w.heap.size,2,none⟩ = some (.int .i64 c.parts):=fun a b d=>(XX a b d).cell 2 (by omega)
 have k3:∀ a b d,(((w1.alloc a).alloc b).alloc d).cell? ⟨w.heap.size,3,none⟩ = some (.int .i64 c.queue):=fun a b d=>(XX a b d).cell 3 (by omega)
 have k4:∀ a b d,(((w1.alloc a).alloc b).alloc d).cell? ⟨w.heap.size,4,none⟩ = some (.int .i64 c.first):=fun a b d=>(XX a b d).cell 4 (by omega)
 have k5:∀ a b d,(((w1.alloc a).alloc b).alloc d).cell? ⟨w.heap.size,5,none⟩ = some (.int .i64 c.second):=fun a b d=>(XX a b d).cell 5 (by omega)
 have k6:∀ a b d,(((w1.alloc a).alloc b).alloc d).cell? ⟨w.heap.size,6,none⟩ = some (.int .i64 c.reply):=fun a b d=>(XX a b d).cell 6 (by omega)
 have k7:∀ a b d,(((w1.alloc a).alloc b).alloc d).cell? ⟨w.heap.size,7,none⟩ = some (.int .i64 c.lost):=fun a b d=>(XX a b d).cell 7 (by omega)
 have k8:∀ a b d,(((w1.alloc a).alloc b).alloc d).cell? ⟨w.heap.size,8,none⟩ = some (.int .i64 c.tries):=fun a b d=>(XX a b d).cell 8 (by omega)
 have k9:∀ a b d,(((w1.alloc a).alloc b).alloc d).cell? ⟨w.heap.size,9,none⟩ = some (.int .i64 c.waits):=fun a b d=>(XX a b d).cell 9 (by omega)
 clear hb1 XX
 go_wp2
 go_ret2
 have hs:=B1.out.size
 obtain ⟨h1,h2,h3,h4,h5⟩:=five_new w1 (.cells rsCells 78) (.cells rsCells 78) (.cells #[.pointer (some ⟨w1.heap.size,0,none⟩),.pointer (some ⟨w1.heap.size + 1,0,none⟩)] 75) (.cells #[.string ⟨#[]⟩,.string ⟨#[]⟩] 9) (.cells #[.int .i64 c.check,.int .i64 c.size,.int .i64 c.parts,.int .i64 c.queue,.int .i64 c.first,.int .i64 c.second,.int .i64 c.reply,.int .i64 c.lost,.int .i64 c.tries,.int .i64 c.waits,.int .i64 0,.slice (some ⟨w1.heap.size + 2,0,none⟩) 2 2,.slice (some ⟨w1.heap.size + 3,0,none⟩) 2 2] 81)
 have hB:=Below.allocN (Below.allocN (Below.allocN (Below.allocN (Below.allocN B1.out (.cells rsCells 78)) (.cells rsCells 78)) (.cells #[.pointer (some ⟨w1.heap.size,0,none⟩),.pointer (some ⟨w1.heap.size + 1,0,none⟩)] 75)) (.cells #[.string ⟨#[]⟩,.string ⟨#[]⟩] 9)) (.cells #[.int .i64 c.check,.int .i64 c.size,.int .i64 c.parts,.int .i64 c.queue,.int .i64 c.first,.int .i64 c.second,.int .i64 c.reply,.int .i64 c.lost,.int .i64 c.tries,.int .i64 c.waits,.int .i64 0,.slice (some ⟨w1.heap.size + 2,0,none⟩) 2 2,.slice (some ⟨w1.heap.size + 3,0,none⟩) 2 2] 81)
 refine ⟨w1.heap.size + 4,rfl,⟨w1.heap.size + 2,w1.heap.size + 3,w1.heap.size,w1.heap.size + 1,fun _=>False,fun _=>False,?_,?_,by omega,id,id,fun _ h=>h.elim,fun _ h=>h.elim,fun _ h=>h.elim,?_,?_,?_,?_,?_⟩,fun j=>(cells_at h5).2 j,hB⟩
 ·exact rat_new (A:=⟨w1.heap.size + 4,w1.heap.size + 2,w1.heap.size + 3,w1.heap.size,0⟩) (show (0:Nat) < 2 by omega) h5 h4 h1 ((cells_at h3).1 0) ⟨show (0:Nat) < 2 by omega,by simp,by simp,by simp,by simp,by simp,by simp,id,id,id,id⟩
 ·exact rat_new (A:=⟨w1.heap.size + 4,w1.heap.size + 2,w1.heap.size + 3,w1.heap.size + 1,1⟩) (show (1:Nat) < 2 by omega) h5 h4 h2 ((cells_at h3).1 1) ⟨show (1:Nat) < 2 by omega,by simp,by simp,by simp,by simp,by simp,by simp,id,id,id,id⟩
 all_goals (show w.heap.size ≤ _; omega)
theorem rnew_line (c:Cfg) (w:World) (hc:c.Ok) :
  Calls Tryz.prog 15 #[cfgV c] w fun e w'=>∃ yb,e = .returned (.tuple #[.pointer (some ⟨yb,0,none⟩),.int .i64 0]) ∧ DocAt w' (New w) yb (newL c) ∧ Below w.heap.size w w':=by
 refine (rnew_z c w hc).mono ?_
 rintro e w' ⟨yb,rfl,hl,hz,hb⟩
 exact ⟨yb,rfl,⟨newRS,newRS,hl,RLR.new c,hz⟩,hb⟩
theorem rlook_line (F:Nat → Prop) (yb:Nat) (x:Ln) (st:Int) (w:World) (h:DocAt w F yb x) :
  Calls Tryz.prog 29 #[.pointer (some ⟨yb,0,none⟩),.int .i64 st] w fun e w'=>e = .returned (lookOf x st) ∧ Below w.heap.size w w':=by
 obtain ⟨r0,r1,hl,hr,_⟩:=h
 obtain ⟨sl,ob,b0,b1,F0,F1,h0,h1,_⟩:=hl.at'
 by_cases s0:st = 0
 ·subst s0
  refine (rlook_one F0 ⟨yb,sl,ob,b0,0⟩ x.c x.now r0 x.on0 0 w h0 (by simp)).mono ?_
  rintro e w' ⟨rfl,hb⟩
  refine ⟨?_,hb⟩
  rw [hr.a.mode,hr.a.q,hr.a.busy]
  rfl
 ·by_cases s1:st = 1
  ·subst s1
   refine (rlook_one F1 ⟨yb,sl,ob,b1,1⟩ x.c x.now r1 x.on1 1 w h1 (by simp)).mono ?_
   rintro e w' ⟨rfl,hb⟩
   refine ⟨?_,hb⟩
   rw [hr.b.mode,hr.b.q,hr.b.busy]
   rfl
  ·have e:lookOf x st = viewV 0 0 false:=by unfold lookOf; rw [if_neg s0,if_neg s1]
   rw [e]
   exact rlook_none yb st w (by omega)
theorem ronLine_line (F:Nat → Prop) (yb:Nat) (x:Ln) (st:Int) (w:World) (h:DocAt w F yb x) :
  Calls Tryz.prog 31 #[.pointer (some ⟨yb,0,none⟩),.int .i64 st] w fun e w'=>e = .returned (.string ⟨(onOf x st).toArray⟩) ∧ Below w.heap.size w w':=by
 obtain ⟨r0,r1,hl,hr,_⟩:=h
 obtain ⟨sl,ob,b0,b1,F0,F1,h0,h1,_⟩:=hl.at'
 by_cases s0:st = 0
 ·subst s0
  exact ronLine_one F0 ⟨yb,sl,ob,b0,0⟩ x.c x.now r0 x.on0 0 w h0 (by simp)
 ·by_cases s1:st = 1
  ·subst s1
   exact ronLine_one F1 ⟨yb,sl,ob,b1,1⟩ x.c x.now r1 x.on1 1 w h1 (by simp)
  ·have e:onOf x st = []:=by unfold onOf; rw [if_neg s0,if_neg s1]
   rw [e]
   exact ronLine_none yb st w (by omega)
theorem Tryz.infoPair:(Tryz.prog.info? 35).map (fun i=>(i.zero,i.size,i.bytes)) = some (some (.pointer none),1,8):=by kernel_rfl
/-- What opening a line leaves,where there was none. -/
def Opened (wb:Nat) (may:Bool) (w':World):Prop :=
 (may = false ∧ w'.cell? ⟨wb,0,none⟩ = some (.slice none 0 0)) ∨
 ∃ (lb cap pb xb yb:Nat) (c:Cfg) (F G:Nat → Prop),w'.cell? ⟨wb,0,none⟩ = some (.slice (some ⟨lb,0,none⟩) 1 cap) ∧ w'.cell? ⟨lb,0,none⟩ = some (.pointer (some ⟨pb,0,none⟩)) ∧ PairAt w' pb xb yb ∧ LnAt w' F xb c (newP 0) (newP 1) ∧ RLn w' G yb c 0 newRS newRS [] []
theorem RLn.below {w w':World} {F:Nat → Prop} {yb:Nat} {c:Cfg} {now:Nat} {r0 r1:RS} {on0 on1:List UInt8} (h:RLn w F yb c now r0 r1 on0 on1) (k:Below w.heap.size w w'):RLn w' F yb c now r0 r1 on0 on1:=by
 obtain ⟨sl,ob,b0,b1,F0,F1,h0,h1,n,a1,a2,a3,a4,a5,r⟩:=h.at'
 exact ⟨sl,ob,b0,b1,F0,F1,h0.below k,h1.below k,n,a1,a2,a3,fun g hg=>⟨(a4 g hg).1,Nat.lt_of_lt_of_le (a4 g hg).2 k.size⟩,fun g hg=>⟨(a5 g hg).1,Nat.lt_of_lt_of_le (a5 g hg).2 k.size⟩,r⟩
theorem view_new:viewV newRS.mode newRS.q.length newRS.busy = .agg #[.int .i64 0,.int .i64 0,.bool false]:=rfl
theorem view_newP (i:Nat):viewV (newP i).mode (newP i).q.length (newP i).busy = .agg #[.int .i64 0,.int .i64 0,.bool false]:=rfl
/-- Both may be looked at. -/
theorem looks_new (pb xb yb:Nat) (c:Cfg) (F G:Nat → Prop) (w:World) (hp:PairAt w pb xb yb) (hl:LnAt w F xb c (newP 0) (newP 1)) (hr:RLn w G yb c 0 newRS newRS [] []) :
  Calls Tryz.prog 11 #[.pointer (some ⟨pb,0,none⟩)] w fun e w'=>e = .returned (.bool true) ∧ Below w.heap.size w w':=by
 refine looks_any pb w fun st w1 hst hb=>?_
 have hp1:PairAt w1 pb xb yb:=(hb.block _ (lt_of_block hp)).trans hp
 have hl1:=hl.keep hb.size fun g _ hg=>hb.block g hg
 have hr1:=hr.below hb
 refine ⟨seen_any pb xb yb st 0 0 false w1 hp1 (fun w2 hb2=>?_) (fun w2 hb2=>?_),heard_pair pb xb yb st ⟨#[]⟩ w1 hp1 (fun w2 hb2=>?_) (fun w2 hb2=>?_)⟩
 ·refine (look_any F xb c (newP 0) (newP 1) st w2 (hl1.keep hb2.size fun g _ hg=>hb2.block g hg)).mono ?_
  rintro e w' ⟨rfl,h⟩
  refine ⟨?_,h⟩
  rcases hst with rfl | rfl
  ·rw [if_pos rfl,view_newP]
  ·rw [if_neg (by decide),if_pos rfl,view_newP]
 ·obtain ⟨sl,ob,b0,b1,F0,F1,h0,h1,_⟩:=(hr1.below hb2).at'
  rcases hst with rfl | rfl
  ·refine (rlook_one F0 ⟨yb,sl,ob,b0,0⟩ c 0 newRS [] 0 w2 h0 (by simp)).mono ?_
   rintro e w' ⟨rfl,h⟩
   exact ⟨by rw [view_new],h⟩
  ·refine (rlook_one F1 ⟨yb,sl,ob,b1,1⟩ c 0 newRS [] 1 w2 h1 (by simp)).mono ?_
   rintro e w' ⟨rfl,h⟩
   exact ⟨by rw [view_new],h⟩
 ·refine (onLine_any F xb c (newP 0) (newP 1) st w2 (hl1.keep hb2.size fun g _ hg=>hb2.block g hg)).mono ?_
  rintro e w' ⟨rfl,h⟩
  refine ⟨?_,h⟩
  rcases hst with rfl | rfl
  ·rw [if_pos rfl]; rfl
  ·rw [if_neg (by decide),if_pos rfl]; rfl
 ·obtain ⟨sl,ob,b0,b1,F0,F1,h0,h1,_⟩:=(hr1.below hb2).at'
  rcases hst with rfl | rfl
  ·exact ronLine_one F0 ⟨yb,sl,ob,b0,0⟩ c 0 newRS [] 0 w2 h0 (by simp)
  ·exact ronLine_one F1 ⟨yb,sl,ob,b1,1⟩ c 0 newRS [] 1 w2 h1 (by simp)
theorem opened_end {w W0 w1 w2:World} {wb xb yb cap:Nat} {c:Cfg} (hB:Below w.heap.size w w2) (hlt:wb < w.heap.size) (_hx:W0.heap.size ≤ xb) (hW:w.heap.size ≤ W0.heap.size) (hw1:w.heap.size ≤ w1.heap.size) (d0:w2.cell? ⟨wb,0,none⟩ = some (.slice none 0 0)) (hl:LnAt w2 (New W0) xb c (newP 0) (newP 1)) (hr:RLn w2 (New w1) yb c 0 newRS newRS [] []) (o:Obj) (zs:Array Value) (hz:zs[0]? = some (.pointer (some ⟨w2.heap.size,0,none⟩))) :
  Opened wb true (((((w2.alloc (.cells #[.pointer (some ⟨xb,0,none⟩),.pointer (some ⟨yb,0,none⟩)] 49)).alloc o).alloc (.cells zs 35)).setCell ⟨wb,0,none⟩ (.slice (some ⟨w2.heap.size + 1 + 1,0,none⟩) 1 cap)).drew) ∧
  Fr (fun g=>g = wb) w (((((w2.alloc (.cells #[.pointer (some ⟨xb,0,none⟩),.pointer (some ⟨yb,0,none⟩)] 49)).alloc o).alloc (.cells zs 35)).setCell ⟨wb,0,none⟩ (.slice (some ⟨w2.heap.size + 1 + 1,0,none⟩) 1 cap)).drew):=by
 have hs:=hB.size
 have hX:Below w2.heap.size w2 (((w2.alloc (.cells #[.pointer (some ⟨xb,0,none⟩),.pointer (some ⟨yb,0,none⟩)] 49)).alloc o).alloc (.cells zs 35)):=Below.allocN (Below.allocN (Below.allocN (Below.refl _ _) _) _) _
 have n0:(((w2.alloc (.cells #[.pointer (some ⟨xb,0,none⟩),.pointer (some ⟨yb,0,none⟩)] 49)).alloc o).alloc (.cells zs 35)).heap[w2.heap.size]? = some (.cells #[.pointer (some ⟨xb,0,none⟩),.pointer (some ⟨yb,0,none⟩)] 49 (0,0)):=by
  rw [Below.heap_alloc _ _ _ (by simp; omega),Below.heap_alloc _ _ _ (by simp)]
  exact heap_alloc_new _ _
 have n2:(((w2.alloc (.cells #[.pointer (some ⟨xb,0,none⟩),.pointer (some ⟨yb,0,none⟩)] 49)).alloc o).alloc (.cells zs 35)).heap[w2.heap.size + 1 + 1]? = some (.cells zs 35 (0,0)):=by
  have:=heap_alloc_new ((w2.alloc (.cells #[.pointer (some ⟨xb,0,none⟩),.pointer (some ⟨yb,0,none⟩)] 49)).alloc o) (.cells zs 35)
  simpa using this
 generalize (((w2.alloc (.cells #[.pointer (some ⟨xb,0,none⟩),.pointer (some ⟨yb,0,none⟩)] 49)).alloc o).alloc (.cells zs 35)) = X at *
 have hXs:=hX.size
 have d1:X.cell? ⟨wb,0,none⟩ = some (.slice none 0 0):=(hX.cell (by simp only; omega)).trans d0
 have kb:∀ g,g ≠ wb → ((X.setCell ⟨wb,0,none⟩ (.slice (some ⟨w2.heap.size + 1 + 1,0,none⟩) 1 cap)).drew).heap[g]? = X.heap[g]?:=fun g hg=>Below.heap_setCell _ _ _ _ hg
 refine ⟨Or.inr ⟨w2.heap.size + 1 + 1,cap,w2.heap.size,xb,yb,c,New W0,New w1,World.cell?_setCell_same _ _ _ d1,?_,(kb _ (by omega)).trans n0,?_,?_⟩,⟨?_,?_,?_,?_,?_⟩⟩
 ·rw [World.cell?_of_block (kb _ (by simp only; omega))]
  simp only [World.cell?,n2]
  exact hz
 ·refine hl.keep (by simpa using hXs) fun g hg hgl=>?_
  have hg':W0.heap.size ≤ g:=hg
  rw [kb g (by omega)]
  exact hX.block g hgl
 ·refine hr.keep (by simpa using hXs) fun g hg hgl=>?_
  have hg':w1.heap.size ≤ g:=hg
  rw [kb g (by omega)]
  exact hX.block g hgl
 ·exact hX.os.trans hB.os
 ·exact hX.tape.trans hB.tape
 ·exact hX.output.trans hB.output
 ·simp; omega
 ·intro k hk hn
  rw [kb k hn,hX.block k (by omega)]
  exact hB.block k hk
theorem opened_new (wb:Nat) (c0 c1 c2 c3 c4 c5 c6 c7 c8 c9:Int) (w:World) (hw:w.heap[wb]? = some (.cells #[.slice none 0 0,.slice none 0 0] 34 (0,0))) :
  Calls Tryz.prog 10 #[.pointer (some ⟨wb,0,none⟩),.agg #[.int .i64 c0,.int .i64 c1,.int .i64 c2,.int .i64 c3,.int .i64 c4,.int .i64 c5,.int .i64 c6,.int .i64 c7,.int .i64 c8,.int .i64 c9]] w fun e w'=>e = .returned (.bool true) ∧ Opened wb (mayI c0 c1 c2 c3 c4 c5 c6 c7 c8 c9) w' ∧ Fr (fun g=>g = wb) w w':=by
 have hlt:=lt_of_block hw
 have HW:=hide hw
 have X0:CfgIAt (w.alloc (.cells #[.int .i64 c0,.int .i64 c1,.int .i64 c2,.int .i64 c3,.int .i64 c4,.int .i64 c5,.int .i64 c6,.int .i64 c7,.int .i64 c8,.int .i64 c9] 26)) w.heap.size c0 c1 c2 c3 c4 c5 c6 c7 c8 c9:=CfgI.at rfl _ _ _ _ _ _ _ _ _ _
 have hb0:=(Below.refl w.heap.size w).alloc (Nat.le_refl _) (.cells #[.int .i64 c0,.int .i64 c1,.int .i64 c2,.int .i64 c3,.int .i64 c4,.int .i64 c5,.int .i64 c6,.int .i64 c7,.int .i64 c8,.int .i64 c9] 26)
 have HB0:=hide hb0
 have HX0:=hide X0
 clear hw X0 hb0
 cases hm:mayI c0 c1 c2 c3 c4 c5 c6 c7 c8 c9
 ·have HM:=hide hm
  clear hm
  go_enter Tryz.func10,Tryz.ntmps10
  go_wp2_with fail
  generalize w.alloc (.cells #[.int .i64 c0,.int .i64 c1,.int .i64 c2,.int .i64 c3,.int .i64 c4,.int .i64 c5,.int .i64 c6,.int .i64 c7,.int .i64 c8,.int .i64 c9] 26) = W0 at *
  refine (new_no c0 c1 c2 c3 c4 c5 c6 c7 c8 c9 _ HM.out).mono ?_
  rintro e w1 ⟨rfl,hb1⟩
  have HX1:=hide (HX0.out.below hb1)
  have HB1:=hide (below_step HB0.out hb1)
  obtain ⟨k0,k1,k2,k3,k4,k5,k6,k7,k8,k9⟩:=HX1.out.all
  clear hb1
  go_wp2_with fail
  refine (rnew_no c0 c1 c2 c3 c4 c5 c6 c7 c8 c9 _ HM.out).mono ?_
  rintro e w2 ⟨rfl,hb2⟩
  have HB2:=hide (below_step HB1.out hb2)
  clear hb2 k0 k1 k2 k3 k4 k5 k6 k7 k8 k9
  go_wp2
  go_ret
  exact ⟨rfl,Or.inl ⟨rfl,(HB2.out.cell hlt).trans ((cells_at HW.out).1 0)⟩,Fr.of_below HB2.out⟩
 ·obtain ⟨c,hc,rfl,rfl,rfl,rfl,rfl,rfl,rfl,rfl,rfl,rfl⟩:=may_cfg _ _ _ _ _ _ _ _ _ _ hm
  have HC:=hide hc
  clear hm hc
  go_enter Tryz.func10,Tryz.ntmps10
  go_wp2_with fail
  generalize w.alloc (.cells #[.int .i64 (c.check:Int),_,_,_,_,_,_,_,_,_] 26) = W0 at *
  refine (new_ok c _ HC.out).mono ?_
  rintro e w1 ⟨xb,rfl,hxb,hl1,hb1⟩
  have HX1:=hide (HX0.out.below hb1)
  have HB1:=hide (below_step HB0.out hb1)
  have HL1:=hide hl1
  obtain ⟨k0,k1,k2,k3,k4,k5,k6,k7,k8,k9⟩:=HX1.out.all
  clear hb1 hl1
  go_wp2_with fail
  refine (rnew_ok c _ HC.out).mono ?_
  rintro e w2 ⟨yb,rfl,hr2,hb2⟩
  have HB2:=hide (below_step HB1.out hb2)
  have HL2:=hide (HL1.out.keep hb2.size fun g _ hg=>hb2.block g hg)
  have HR2:=hide hr2
  have d0:w2.cell? ⟨wb,0,none⟩ = some (.slice none 0 0):=(HB2.out.cell hlt).trans ((cells_at HW.out).1 0)
  have dz:w2.frozen? ⟨wb,0,none⟩ = false:=(HB2.out.frozen hlt).trans ((cells_at HW.out).2 0)
  have hlt2:wb < w2.heap.size:=by have:=HB2.out.size; omega
  have hne2:wb ≠ w2.heap.size:=by omega
  clear hb2 hr2 k0 k1 k2 k3 k4 k5 k6 k7 k8 k9
  have dd:∀ x y z,(((w2.alloc x).alloc y).alloc z).cell? ⟨wb,0,none⟩ = some (.slice none 0 0):=fun x y z=>(Below.cell (Below.allocN (Below.allocN (Below.allocN (Below.refl w2.heap.size w2) x) y) z) hlt2).trans d0
  have ddz:∀ x y z,(((w2.alloc x).alloc y).alloc z).frozen? ⟨wb,0,none⟩ = false:=fun x y z=>(Below.frozen (Below.allocN (Below.allocN (Below.allocN (Below.refl w2.heap.size w2) x) y) z) hlt2).trans dz
  go_wp2
  go_ret
  exact ⟨rfl,opened_end HB2.out hlt hxb (by have:=HB0.out.size; omega) HB1.out.size d0 HL2.out HR2.out _ _ (by rw [Array.getElem?_append_left (by simp)]; rfl)⟩
theorem known_cfg (c0 c1 c2 c3 c4 c5 c6 c7 c8 c9:Int) (w:World) :
  Calls Tryz.prog 8 #[.agg #[.int .i64 c0,.int .i64 c1,.int .i64 c2,.int .i64 c3,.int .i64 c4,.int .i64 c5,.int .i64 c6,.int .i64 c7,.int .i64 c8,.int .i64 c9]] w fun e w'=>e = .returned (.bool true) ∧ Below w.heap.size w w':=by
 have X0:CfgIAt (w.alloc (.cells #[.int .i64 c0,.int .i64 c1,.int .i64 c2,.int .i64 c3,.int .i64 c4,.int .i64 c5,.int .i64 c6,.int .i64 c7,.int .i64 c8,.int .i64 c9] 26)) w.heap.size c0 c1 c2 c3 c4 c5 c6 c7 c8 c9:=CfgI.at rfl _ _ _ _ _ _ _ _ _ _
 have hb0:=(Below.refl w.heap.size w).alloc (Nat.le_refl _) (.cells #[.int .i64 c0,.int .i64 c1,.int .i64 c2,.int .i64 c3,.int .i64 c4,.int .i64 c5,.int .i64 c6,.int .i64 c7,.int .i64 c8,.int .i64 c9] 26)
 have HB0:=hide hb0
 have HX0:=hide X0
 clear X0 hb0
 go_enter Tryz.func8,Tryz.ntmps8
 go_wp2_with fail
 have hs0:(w.alloc (.cells #[.int .i64 c0,.int .i64 c1,.int .i64 c2,.int .i64 c3,.int .i64 c4,.int .i64 c5,.int .i64 c6,.int .i64 c7,.int .i64 c8,.int .i64 c9] 26)).heap.size = w.heap.size + 1:=by simp
 generalize w.alloc (.cells #[.int .i64 c0,.int .i64 c1,.int .i64 c2,.int .i64 c3,.int .i64 c4,.int .i64 c5,.int .i64 c6,.int .i64 c7,.int .i64 c8,.int .i64 c9] 26) = W0 at *
 have hw:=heap_alloc_new W0 (.cells #[.slice none 0 0,.slice none 0 0] 34)
 have HB1:=hide (Below.allocN HB0.out (.cells #[.slice none 0 0,.slice none 0 0] 34))
 rw [hs0] at hw
 generalize W0.alloc (.cells #[.slice none 0 0,.slice none 0 0] 34) = W1 at *
 refine (opened_new (w.heap.size + 1) c0 c1 c2 c3 c4 c5 c6 c7 c8 c9 _ hw).mono ?_
 rintro e w2 ⟨rfl,ho,hf⟩
 have hbel:Below w.heap.size w w2:=⟨hf.os.trans HB1.out.os,hf.tape.trans HB1.out.tape,hf.output.trans HB1.out.output,Nat.le_trans HB1.out.size hf.size,fun k hk=>(hf.block k (by have:=HB1.out.size; omega) (by omega)).trans (HB1.out.block k hk)⟩
 have HB2:=hide hbel
 clear hw hs0 hbel hf
 rcases ho with ⟨_,d0⟩ | ⟨lb,cap,pb,xb,yb,c,F,G,d0,l0,hp,hl,hr⟩
 ·go_wp2
  go_ret
  exact ⟨rfl,HB2.out⟩
 ·have HP:=hide hp
  have HL:=hide hl
  have HR:=hide hr
  clear hp hl hr
  go_wp2_with fail
  refine (looks_new pb xb yb c F G _ HP.out HL.out HR.out).mono ?_
  rintro e w3 ⟨rfl,hb3⟩
  have HB3:=hide (below_step HB2.out hb3)
  clear hb3
  go_wp2
  go_ret
  exact ⟨rfl,HB3.out⟩
theorem some_any (w:World) :
  Calls Tryz.prog 7 #[] w fun e w'=>e = .returned (.agg #[.int .i64 0,.int .i64 2,.int .i64 1,.int .i64 2,.int .i64 3,.int .i64 4,.int .i64 3,.int .i64 11,.int .i64 1,.int .i64 1]) ∧ Below w.heap.size w w':=by
 go_enter Tryz.func7,Tryz.ntmps7
 go_wp2
 (try simp only [Exit.inBlock,Exit.then])
 go_returns
 exact ⟨rfl,(Below.refl _ _).alloc (Nat.le_refl _) _⟩
end Go.Proofs.YtlbpjcphhocdkaaGreat
