/- The document's line, made; what can be asked of it. -/
import Derived.Test.YtlbpjcphhocdkaaGreatQ44
import Derived.Test.YtlbpjcphhocdkaaGreatQ05
set_option maxRecDepth 1000000
set_option maxHeartbeats 16000000
namespace Go.Proofs.YtlbpjcphhocdkaaGreat
open Go.RowKit Go.Proofs.YtlbpjcphhocdkaaGreat.Mod Go.Proofs.YtlbpjcphhocdkaaGreat.Pst
theorem rnew_no (c0 c1 c2 c3 c4 c5 c6 c7 c8 c9:Int) (w:World) (h:mayI c0 c1 c2 c3 c4 c5 c6 c7 c8 c9 = false) :
  Calls Tryz.prog 15 #[.agg #[.int .i64 c0,.int .i64 c1,.int .i64 c2,.int .i64 c3,.int .i64 c4,.int .i64 c5,.int .i64 c6,.int .i64 c7,.int .i64 c8,.int .i64 c9]] w fun e w'=>e = .returned (.tuple #[.pointer none,.int .i64 6]) ∧ Below w.heap.size w w':=by
 have H:=hide h
 clear h
 go_enter Tryz.func15,Tryz.ntmps15
 go_wp2_with fail
 refine (rmay_any c0 c1 c2 c3 c4 c5 c6 c7 c8 c9 _).mono ?_
 rintro e w1 ⟨rfl,hb1⟩
 rw [H.out]
 have B1:=hide (below_step ((Below.refl w.heap.size w).alloc (Nat.le_refl _) (.cells #[.int .i64 c0,.int .i64 c1,.int .i64 c2,.int .i64 c3,.int .i64 c4,.int .i64 c5,.int .i64 c6,.int .i64 c7,.int .i64 c8,.int .i64 c9] 26)) hb1)
 clear hb1
 go_wp2
 go_ret2
 exact ⟨rfl,B1.out⟩
def newRS:RS:=⟨0,false,[],0,0,0,-3,0,0,false,0,0,[]⟩
theorem cells_at {W:World} {g:Nat} {cs:Array Value} {t:TypeId} (h:W.heap[g]? = some (.cells cs t (0,0))):(∀ i,W.cell? ⟨g,i,none⟩ = cs[i]?) ∧ ∀ j,W.frozen? ⟨g,j,none⟩ = false :=
 ⟨fun i=>by simp [World.cell?,h],fun j=>Go.Joins.unfrozen_of_block h j⟩
/-- A new station's cells. -/
def rsCells:Array Value:=#[.int .i64 0,.bool false,.slice none 0 0,.int .i64 0,.int .i64 0,.int .i64 0,.int .i64 (-3),.int .i64 0,.int .i64 0,.bool false,.int .i64 0,.int .i64 0,.slice none 0 0]
theorem rat_new {W:World} {c:Cfg} {A:RAd} (hi:A.i < 2) (h1:W.heap[A.yb]? = some (.cells #[.int .i64 c.check,.int .i64 c.size,.int .i64 c.parts,.int .i64 c.queue,.int .i64 c.first,.int .i64 c.second,.int .i64 c.reply,.int .i64 c.lost,.int .i64 c.tries,.int .i64 c.waits,.int .i64 0,.slice (some ⟨A.sl,0,none⟩) 2 2,.slice (some ⟨A.ob,0,none⟩) 2 2] 81 (0,0)))
  (h2:W.heap[A.ob]? = some (.cells #[.string ⟨#[]⟩,.string ⟨#[]⟩] 9 (0,0))) (h3:W.heap[A.sb]? = some (.cells rsCells 78 (0,0))) (h4:W.cell? ⟨A.sl,A.i,none⟩ = some (.pointer (some ⟨A.sb,0,none⟩)))
  (ho:A.Ok (fun _=>False)):RAt W (fun _=>False) A c 0 newRS []:=by
 obtain ⟨k1,_⟩:=cells_at h1
 obtain ⟨k2,z2⟩:=cells_at h2
 obtain ⟨k3,z3⟩:=cells_at h3
 refine ⟨⟨k1 0,k1 1,k1 2,k1 3,k1 4,k1 5,k1 6,k1 7,k1 8,k1 9⟩,k1 10,k1 11,k1 12,h4,?_,k3 0,k3 1,⟨_,k3 2,QAt.nil W _⟩,k3 3,k3 4,k3 5,k3 6,k3 7,k3 8,k3 9,k3 10,k3 11,⟨_,k3 12,GAt.nil W _⟩,z2,z3,ho⟩
 rw [k2]
 match A.i,hi with
 | 0,_=>rfl
 | 1,_=>rfl
theorem five_new (w:World) (a b c d e:Obj):((((((w.alloc a).alloc b).alloc c).alloc d).alloc e).heap[w.heap.size]? = some a ∧ (((((w.alloc a).alloc b).alloc c).alloc d).alloc e).heap[w.heap.size + 1]? = some b ∧ (((((w.alloc a).alloc b).alloc c).alloc d).alloc e).heap[w.heap.size + 2]? = some c ∧ (((((w.alloc a).alloc b).alloc c).alloc d).alloc e).heap[w.heap.size + 3]? = some d ∧ (((((w.alloc a).alloc b).alloc c).alloc d).alloc e).heap[w.heap.size + 4]? = some e):=by
 have z:∀ (w:World) (o:Obj),(w.alloc o).heap.size = w.heap.size + 1:=fun w o=>by simp
 have h:∀ (w:World) (o:Obj) (k:Nat),k < w.heap.size → (w.alloc o).heap[k]? = w.heap[k]?:=fun w o k hk=>Below.heap_alloc w o k hk
 have n:∀ (w:World) (o:Obj),(w.alloc o).heap[w.heap.size]? = some o:=fun w o=>heap_alloc_new w o
 have n':∀ (w:World) (o:Obj) (k:Nat),k = w.heap.size → (w.alloc o).heap[k]? = some o:=fun w o k hk=>by rw [hk]; exact n w o
 refine ⟨?_,?_,?_,?_,?_⟩
 ·rw [h _ _ _ (by simp only [z]; omega),h _ _ _ (by simp only [z]; omega),h _ _ _ (by simp only [z]; omega),h _ _ _ (by simp only [z]; omega)]; exact n w a
 ·rw [h _ _ _ (by simp only [z]; omega),h _ _ _ (by simp only [z]; omega),h _ _ _ (by simp only [z]; omega)]; exact n' _ b _ (by simp only [z])
 ·rw [h _ _ _ (by simp only [z]; omega),h _ _ _ (by simp only [z]; omega)]; exact n' _ c _ (by simp only [z])
 ·rw [h _ _ _ (by simp only [z]; omega)]; exact n' _ d _ (by simp only [z])
 ·exact n' _ e _ (by simp only [z])
theorem rnew_ok (c:Cfg) (w:World) (hc:c.Ok) :
  Calls Tryz.prog 15 #[cfgV c] w fun e w'=>∃ yb,e = .returned (.tuple #[.pointer (some ⟨yb,0,none⟩),.int .i64 0]) ∧ RLn w' (New w) yb c 0 newRS newRS [] [] ∧ Below w.heap.size w w':=by
 have H:=hide (may_ok hc)
 clear hc
 unfold cfgV
 go_enter Tryz.func15,Tryz.ntmps15
 go_wp2_with fail
 refine (rmay_any _ _ _ _ _ _ _ _ _ _ _).mono ?_
 rintro e w1 ⟨rfl,hb1⟩
 rw [H.out]
 have X1:=hide ((CfgAt.new w c).below hb1)
 have B1:=hide (below_step ((Below.refl w.heap.size w).alloc (Nat.le_refl _) (.cells (cfgCells c) 26)) hb1)
 have hlt:=CfgAt.lt X1.out
 have XX:∀ a b d,CfgAt (((w1.alloc a).alloc b).alloc d) w.heap.size c:=fun a b d=>((X1.out.below (Below.allocN (Below.refl _ _) a)).below (Below.allocN (Below.refl _ _) b)).below (Below.allocN (Below.refl _ _) d)
 have k0:∀ a b d,(((w1.alloc a).alloc b).alloc d).cell? ⟨w.heap.size,0,none⟩ = some (.int .i64 c.check):=fun a b d=>(XX a b d).cell 0 (by omega)
 have k1:∀ a b d,(((w1.alloc a).alloc b).alloc d).cell? ⟨w.heap.size,1,none⟩ = some (.int .i64 c.size):=fun a b d=>(XX a b d).cell 1 (by omega)
 have k2:∀ a b d,(((w1.alloc a).alloc b).alloc d).cell? ⟨w.heap.size,2,none⟩ = some (.int .i64 c.parts):=fun a b d=>(XX a b d).cell 2 (by omega)
 have k3:∀ a b d,(((w1.alloc a).alloc b).alloc d).cell? ⟨w.heap.size,3,none⟩ = some (.int .i64 c.queue):=fun a b d=>(XX a b d).cell 3 (by omega)
 have k4:∀ a b d,(((w1.alloc a).alloc b).alloc d).cell? ⟨w.heap.size,4,none⟩ = some (.int .i64 c.first):=fun a b d=>(XX a b d).cell 4 (by omega)
 have k5:∀ a b d,(((w1.alloc a).alloc b).alloc d).cell? ⟨w.heap.size,5,none⟩ = some (.int .i64 c.second):=fun a b d=>(XX a b d).cell 5 (by omega)
 have k6:∀ a b d,(((w1.alloc a).alloc b).alloc d).cell? ⟨w.heap.size,6,none⟩ = some (.int .i64 c.reply):=fun a b d=>(XX a b d).cell 6 (by omega)
 have k7:∀ a b d,(((w1.alloc a).alloc b).alloc d).cell? ⟨w.heap.size,7,none⟩ = some (.int .i64 c.lost):=fun a b d=>(XX a b d).cell 7 (by omega)
 have k8:∀ a b d,(((w1.alloc a).alloc b).alloc d).cell? ⟨w.heap.size,8,none⟩ = some (.int .i64 c.tries):=fun a b d=>(XX a b d).cell 8 (by omega)
 have k9:∀ a b d,(((w1.alloc a).alloc b).alloc d).cell? ⟨w.heap.size,9,none⟩ = some (.int .i64 c.waits):=fun a b d=>(XX a b d).cell 9 (by omega)
 clear hb1 XX
 go_wp2
 go_ret2
 have hs:=B1.out.size
 obtain ⟨h1,h2,h3,h4,h5⟩:=five_new w1 (.cells rsCells 78) (.cells rsCells 78) (.cells #[.pointer (some ⟨w1.heap.size,0,none⟩),.pointer (some ⟨w1.heap.size + 1,0,none⟩)] 75) (.cells #[.string ⟨#[]⟩,.string ⟨#[]⟩] 9) (.cells #[.int .i64 c.check,.int .i64 c.size,.int .i64 c.parts,.int .i64 c.queue,.int .i64 c.first,.int .i64 c.second,.int .i64 c.reply,.int .i64 c.lost,.int .i64 c.tries,.int .i64 c.waits,.int .i64 0,.slice (some ⟨w1.heap.size + 2,0,none⟩) 2 2,.slice (some ⟨w1.heap.size + 3,0,none⟩) 2 2] 81)
 have hB:=Below.allocN (Below.allocN (Below.allocN (Below.allocN (Below.allocN B1.out (.cells rsCells 78)) (.cells rsCells 78)) (.cells #[.pointer (some ⟨w1.heap.size,0,none⟩),.pointer (some ⟨w1.heap.size + 1,0,none⟩)] 75)) (.cells #[.string ⟨#[]⟩,.string ⟨#[]⟩] 9)) (.cells #[.int .i64 c.check,.int .i64 c.size,.int .i64 c.parts,.int .i64 c.queue,.int .i64 c.first,.int .i64 c.second,.int .i64 c.reply,.int .i64 c.lost,.int .i64 c.tries,.int .i64 c.waits,.int .i64 0,.slice (some ⟨w1.heap.size + 2,0,none⟩) 2 2,.slice (some ⟨w1.heap.size + 3,0,none⟩) 2 2] 81)
 refine ⟨w1.heap.size + 4,rfl,⟨w1.heap.size + 2,w1.heap.size + 3,w1.heap.size,w1.heap.size + 1,fun _=>False,fun _=>False,?_,?_,by omega,id,id,fun _ h=>h.elim,fun _ h=>h.elim,fun _ h=>h.elim,?_,?_,?_,?_,?_⟩,hB⟩
 ·exact rat_new (A:=⟨w1.heap.size + 4,w1.heap.size + 2,w1.heap.size + 3,w1.heap.size,0⟩) (show (0:Nat) < 2 by omega) h5 h4 h1 ((cells_at h3).1 0) ⟨show (0:Nat) < 2 by omega,by simp,by simp,by simp,by simp,by simp,by simp,id,id,id,id⟩
 ·exact rat_new (A:=⟨w1.heap.size + 4,w1.heap.size + 2,w1.heap.size + 3,w1.heap.size + 1,1⟩) (show (1:Nat) < 2 by omega) h5 h4 h2 ((cells_at h3).1 1) ⟨show (1:Nat) < 2 by omega,by simp,by simp,by simp,by simp,by simp,by simp,id,id,id,id⟩
 all_goals (show w.heap.size ≤ _; omega)
/-- Look,of a station that there is. -/
theorem rlook_one (F:Nat → Prop) (A:RAd) (c:Cfg) (now:Nat) (s:RS) (on:List UInt8) (st:Int) (w:World) (h:RAt w F A c now s on) (hst:st = (A.i:Int)) :
  Calls Tryz.prog 29 #[.pointer (some ⟨A.yb,0,none⟩),.int .i64 st] w fun e w'=>e = .returned (viewV s.mode s.q.length s.busy) ∧ Below w.heap.size w w':=by
 have hi:=h.ok.i
 have l1:=h.lyb
 have l2:=h.lsl
 have l3:=h.lsb
 have n1:A.yb ≠ w.heap.size:=by omega
 have n2:A.sl ≠ w.heap.size:=by omega
 have n3:A.sb ≠ w.heap.size:=by omega
 obtain ⟨v,c2,hv⟩:=h.que
 obtain ⟨a,cap,rfl⟩:=hv.form
 have c11:=h.lst
 have cp:=h.ptr
 have c0:=h.mode
 have c1:=h.busy
 generalize s.q.length = L at *
 obtain ⟨yb,sl,ob,sb,i⟩:=A
 simp only at *
 clear h hv
 match i,hi with
 | 0,_ =>
  subst hst
  go_enter Tryz.func29,Tryz.ntmps29
  go_wp2
  go_region
  go_wp2
  (try simp only [Exit.inBlock,Exit.then])
  refine bodyPost_ret (results_vw rfl _ _ w.heap.size rfl (VwAt.newD w _ _ _)) rfl ?_
  exact ⟨rfl,((Below.refl _ _).alloc (Nat.le_refl _) _).drew⟩
 | 1,_ =>
  subst hst
  go_enter Tryz.func29,Tryz.ntmps29
  go_wp2
  go_region
  go_wp2
  (try simp only [Exit.inBlock,Exit.then])
  refine bodyPost_ret (results_vw rfl _ _ w.heap.size rfl (VwAt.newD w _ _ _)) rfl ?_
  exact ⟨rfl,((Below.refl _ _).alloc (Nat.le_refl _) _).drew⟩
theorem rlook_none (b:Nat) (st:Int) (w:World) (h:¬ (st = 0 ∨ st = 1)) :
  Calls Tryz.prog 29 #[.pointer (some ⟨b,0,none⟩),.int .i64 st] w fun e w'=>e = .returned (viewV 0 0 false) ∧ Below w.heap.size w w':=by
 rcases (show st < 0 ∨ (¬ st < 0 ∧ 1 < st) by omega) with h0 | ⟨h0,h1⟩
 all_goals
  clear h
  go_enter Tryz.func29,Tryz.ntmps29
  go_wp2
  (try simp only [Exit.inBlock,Exit.then])
  refine bodyPost_ret (results_vw rfl _ _ w.heap.size rfl (VwAt.new w _ _ _)) rfl ?_
  exact ⟨rfl,(Below.refl _ _).alloc (Nat.le_refl _) _⟩
theorem ronLine_one (F:Nat → Prop) (A:RAd) (c:Cfg) (now:Nat) (s:RS) (on:List UInt8) (st:Int) (w:World) (h:RAt w F A c now s on) (hst:st = (A.i:Int)) :
  Calls Tryz.prog 31 #[.pointer (some ⟨A.yb,0,none⟩),.int .i64 st] w fun e w'=>e = .returned (.string ⟨on.toArray⟩) ∧ Below w.heap.size w w':=by
 have hi:=h.ok.i
 have c12:=h.onl
 have co:=h.on
 obtain ⟨yb,sl,ob,sb,i⟩:=A
 simp only at *
 clear h
 match i,hi with
 | 0,_ =>
  subst hst
  go_enter Tryz.func31,Tryz.ntmps31
  go_wp2
  go_ret
  exact ⟨rfl,Below.refl _ _⟩
 | 1,_ =>
  subst hst
  go_enter Tryz.func31,Tryz.ntmps31
  go_wp2
  go_ret
  exact ⟨rfl,Below.refl _ _⟩
theorem ronLine_none (b:Nat) (st:Int) (w:World) (h:¬ (st = 0 ∨ st = 1)) :
  Calls Tryz.prog 31 #[.pointer (some ⟨b,0,none⟩),.int .i64 st] w fun e w'=>e = .returned (.string ⟨#[]⟩) ∧ Below w.heap.size w w':=by
 rcases (show st < 0 ∨ (¬ st < 0 ∧ 1 < st) by omega) with h0 | ⟨h0,h1⟩
 all_goals
  clear h
  go_enter Tryz.func31,Tryz.ntmps31
  go_wp2
  go_ret
  exact ⟨rfl,Below.refl _ _⟩
end Go.Proofs.YtlbpjcphhocdkaaGreat
