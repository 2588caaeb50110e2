/- The document's station: what it says, its waits, how it begins. The document's station: waits, patience, its yes, how it stops. The document's station: it stops, it answers. The document's station: its message leaves, .. -/
import Derived.Test.YtlbpjcphhocdkaaGreatQ03
import Derived.Test.YtlbpjcphhocdkaaGreatQ08
set_option maxRecDepth 1000000
set_option maxHeartbeats 16000000
namespace Go.Proofs.YtlbpjcphhocdkaaGreat
open Go.RowKit Go.Proofs.YtlbpjcphhocdkaaGreat.Mod Go.Proofs.YtlbpjcphhocdkaaGreat.Pst
/-- What a method of the document's line that answers nothing leaves. -/
def RDoes (w:World) (F:Nat → Prop) (A:RAd) (c:Cfg) (now:Nat) (s:RS) (on:List UInt8) (e:Ending) (w':World):Prop:=e = .returned (.tuple #[]) ∧ RAt w' F A c now s on ∧ RB A w w'
theorem says_any (F:Nat → Prop) (A:RAd) (c:Cfg) (now k:Nat) (s:RS) (on:List UInt8) (w:World) (h:RAt w F A c now s on) (hk:3 ≤ k ∧ k ≤ 9) :
  Calls Tryz.prog 113 #[.pointer (some ⟨A.yb,0,none⟩),.int .i64 A.i,.int .i64 k] w fun e w'=>RDoes w F A c now s (shortB k) e w':=by
 have HS:=hide (shortS_is k hk)
 have hi:=h.ok.i
 have H:=hide h
 clear h hk
 go_enter Tryz.func113,Tryz.ntmps113
 go_wp2_with fail
 refine (refShort_any k w).mono ?_
 rintro e w1 ⟨rfl,hb⟩
 rw [HS.out.1,HS.out.2]
 have H1:=hide (H.out.below hb)
 have HB:=hide ((RB.refl A w).below H.out.lob H.out.lsb hb)
 have d1:=H1.out.onl
 have d2:=H1.out.on
 have d3:=H1.out.zob A.i
 clear hb
 go_wp2
 go_end0
 exact ⟨rfl,H1.out.on' _,HB.out.setO _⟩
theorem begins_any (F:Nat → Prop) (A:RAd) (c:Cfg) (now:Nat) (s:RS) (on:List UInt8) (w:World) (h:RAt w F A c now s on) :
  Calls Tryz.prog 110 #[.pointer (some ⟨A.yb,0,none⟩),.int .i64 A.i] w fun e w'=>RDoes w F A c now { s with tries:=1,off:=0,free:=false } on e w':=by
 have hi:=h.ok.i
 have n1:=h.ok.h3
 have n2:=h.ok.h5
 have d1:=h.lst
 have d2:=h.ptr
 have c7:=h.tries
 have c8:=h.off
 have c9:=h.free
 have f7:=h.zsb 7
 have f8:=h.zsb 8
 have f9:=h.zsb 9
 have n1':=Ne.symm n1
 have n2':=Ne.symm n2
 have H:=hide h
 clear h
 go_enter Tryz.func110,Tryz.ntmps110
 go_wp2
 go_end0
 exact ⟨rfl,((H.out.tries' 1).off' 0).free' false,((((RB.refl A w).setS H.out.ok.h6 7 _).setS H.out.ok.h6 8 _).setS H.out.ok.h6 9 _)⟩
theorem waits_any (F:Nat → Prop) (A:RAd) (c:Cfg) (now n:Nat) (s:RS) (on:List UInt8) (w:World) (h:RAt w F A c now s on) :
  Calls Tryz.prog 112 #[.pointer (some ⟨A.yb,0,none⟩),.int .i64 A.i,.int .i64 n] w fun e w'=>RDoes w F A c now { s with began:=now,wait:=n } on e w':=by
 have hi:=h.ok.i
 have d1:=h.lst
 have d2:=h.ptr
 have d3:=h.now
 have c4:=h.began
 have f4:=h.zsb 4
 have H:=hide h
 clear h
 go_enter Tryz.func112,Tryz.ntmps112
 go_wp2_with fail
 go_region
 refine exit_at (fun W=>RAt W F A c now { s with began:=now } on ∧ RB A w W) ⟨(H.out.began' now).drew,((RB.refl A w).setS H.out.ok.h6 4 _).drew⟩ ?_
 clear d1 d2 d3 c4 f4
 rintro W ⟨h,b⟩
 have d1:=h.lst
 have d2:=h.ptr
 have c5:=h.wait
 have f5:=h.zsb 5
 have H1:=hide h
 have B1:=hide b
 clear h b
 go_wp2
 go_end0
 exact ⟨rfl,H1.out.wait' n,B1.out.setS H.out.ok.h6 5 _⟩
theorem patience_any (F:Nat → Prop) (A:RAd) (c:Cfg) (now:Nat) (s:RS) (on:List UInt8) (w:World) (h:RAt w F A c now s on) :
  Calls Tryz.prog 111 #[.pointer (some ⟨A.yb,0,none⟩),.int .i64 A.i] w fun e w'=>e = .returned (.int .i64 (patience c A.i s.mode)) ∧ w' = w:=by
 have hi:=h.ok.i
 have d1:=h.lst
 have d2:=h.ptr
 have c0:=h.mode
 obtain ⟨k0,k1,k2,k3,k4,k5,k6,k7,k8,k9⟩:=h.cfg
 clear h
 by_cases m2:s.mode = 2
 ·have HE:Hid (patience c A.i s.mode = c.reply):=by simp [Hid,patience,m2]
  rw [HE.out]
  rw [m2] at c0
  go_enter Tryz.func111,Tryz.ntmps111
  go_wp2
  go_ret
  exact ⟨rfl,rfl⟩
 ·have m2':((s.mode:Int) == 2) = false:=by simp; omega
  by_cases m3:s.mode = 3
  ·have HE:Hid (patience c A.i s.mode = c.lost):=by simp [Hid,patience,m3]
   rw [HE.out]
   rw [m3] at c0
   clear m2'
   go_enter Tryz.func111,Tryz.ntmps111
   go_wp2
   go_ret
   exact ⟨rfl,rfl⟩
  ·have m3':((s.mode:Int) == 3) = false:=by simp; omega
   by_cases h0:A.i = 0
   ·have HE:Hid (patience c A.i s.mode = c.first):=by simp [Hid,patience,m2,m3,h0]
    have d0:((A.i:Int) == 0) = true:=by simp [h0]
    rw [HE.out]
    clear m2 m3 h0
    go_enter Tryz.func111,Tryz.ntmps111
    go_wp2
    go_ret
    exact ⟨rfl,rfl⟩
   ·have HE:Hid (patience c A.i s.mode = c.second):=by simp [Hid,patience,m2,m3,h0]
    have d0:((A.i:Int) == 0) = false:=by simp; omega
    rw [HE.out]
    clear m2 m3 h0
    go_enter Tryz.func111,Tryz.ntmps111
    go_wp2
    go_ret
    exact ⟨rfl,rfl⟩
theorem yes_any (n:Nat) (w:World) (hn:n ≤ 1000000000000000) :
  Calls Tryz.prog 148 #[.int .i64 n] w fun e w'=>e = .returned (.int .i64 (yesN n)) ∧ w' = w:=by
 have h':Int.tmod (n:Int) 2 = ((n % 2:Nat):Int):=by rw [Int.tmod_eq_emod_of_nonneg (by omega)]; omega
 have HE:Hid ((yesN n:Int) = 7 + ((n % 2:Nat):Int)):=by unfold Hid yesN; omega
 rw [HE.out]
 have hb:n % 2 < 2:=Nat.mod_lt _ (by omega)
 generalize n % 2 = r at *
 go_enter Tryz.func148,Tryz.ntmps148
 go_wp2
 go_ret
 exact ⟨rfl,rfl⟩
theorem tells_any (F:Nat → Prop) (A:RAd) (c:Cfg) (now:Nat) (s:RS) (on:List UInt8) (w:World) (h:RAt w F A c now s on) (hn:s.count ≤ 1000000000000000) :
  Calls Tryz.prog 150 #[.pointer (some ⟨A.yb,0,none⟩),.int .i64 A.i] w fun e w'=>RDoes w F A c now s (shortB (if s.busy then 9 else yesN s.count)) e w':=by
 have hi:=h.ok.i
 have d1:=h.lst
 have d2:=h.ptr
 have c1:=h.busy
 have c11:=h.count
 have H:=hide h
 clear h
 cases hb:s.busy
 ·rw [hb] at c1
  go_enter Tryz.func150,Tryz.ntmps150
  go_wp2_with fail
  refine (yes_any s.count _ hn).mono ?_
  rintro e w1 ⟨rfl,hw1⟩
  obtain rfl:=hw1.symm
  go_wp2_with fail
  refine (says_any F A c now (yesN s.count) s on _ H.out (by have:=yes_or s.count; omega)).mono ?_
  rintro e w2 ⟨rfl,h2,b2⟩
  go_wp2
  go_end0
  exact ⟨rfl,h2,b2⟩
 ·rw [hb] at c1
  go_enter Tryz.func150,Tryz.ntmps150
  go_wp2_with fail
  refine (yes_any s.count _ hn).mono ?_
  rintro e w1 ⟨rfl,hw1⟩
  obtain rfl:=hw1.symm
  go_wp2_with fail
  refine (says_any F A c now 9 s on _ H.out (by omega)).mono ?_
  rintro e w2 ⟨rfl,h2,b2⟩
  go_wp2
  go_end0
  exact ⟨rfl,h2,b2⟩
theorem RAt.que' {w:World} {F G:Nat → Prop} {A:RAd} {c:Cfg} {now:Nat} {s:RS} {on:List UInt8} (h:RAt w F A c now s on) (v:Value) (l:List Msg) (hN:QAt w G v l) (hFG:∀ g,F g → G g) (hok:A.Ok G):RAt (w.setCell ⟨A.sb,2,none⟩ v) G A c now { s with q:=l } on:=by
 obtain ⟨_,hv,hq⟩:=h.que
 obtain ⟨_,hg,hG⟩:=h.got
 have hG4:=hok.f4
 exact ⟨h.cfg.setX (Ne.symm h.ok.h3),(cell_ne (Ne.symm h.ok.h3)).trans h.now,(cell_ne (Ne.symm h.ok.h3)).trans h.lst,(cell_ne (Ne.symm h.ok.h3)).trans h.onl,(cell_ne (Ne.symm h.ok.h5)).trans h.ptr,(cell_ne (Ne.symm h.ok.h6)).trans h.on,(cell_nk (by omega)).trans h.mode,(cell_nk (by omega)).trans h.busy,⟨v,World.cell?_setCell_same _ _ _ hv,hN.setX hG4⟩,(cell_nk (by omega)).trans h.joined,(cell_nk (by omega)).trans h.began,(cell_nk (by omega)).trans h.wait,(cell_nk (by omega)).trans h.ended,(cell_nk (by omega)).trans h.tries,(cell_nk (by omega)).trans h.off,(cell_nk (by omega)).trans h.free,(cell_nk (by omega)).trans h.block,(cell_nk (by omega)).trans h.count,⟨_,(cell_nk (by omega)).trans hg,(hG.mono hFG).setX hG4⟩,fun j=>by rw [World.frozen?_setCell]; exact h.zob j,fun j=>by rw [World.frozen?_setCell]; exact h.zsb j,hok⟩
theorem RAt.got' {w:World} {F G:Nat → Prop} {A:RAd} {c:Cfg} {now:Nat} {s:RS} {on:List UInt8} (h:RAt w F A c now s on) (v:Value) (l:List Bk) (hN:GAt w G v l) (hFG:∀ g,F g → G g) (hok:A.Ok G):RAt (w.setCell ⟨A.sb,12,none⟩ v) G A c now { s with got:=l } on:=by
 obtain ⟨_,hv,hq⟩:=h.que
 obtain ⟨_,hg,hG⟩:=h.got
 have hG4:=hok.f4
 exact ⟨h.cfg.setX (Ne.symm h.ok.h3),(cell_ne (Ne.symm h.ok.h3)).trans h.now,(cell_ne (Ne.symm h.ok.h3)).trans h.lst,(cell_ne (Ne.symm h.ok.h3)).trans h.onl,(cell_ne (Ne.symm h.ok.h5)).trans h.ptr,(cell_ne (Ne.symm h.ok.h6)).trans h.on,(cell_nk (by omega)).trans h.mode,(cell_nk (by omega)).trans h.busy,⟨_,(cell_nk (by omega)).trans hv,(hq.mono hFG).setX hG4⟩,(cell_nk (by omega)).trans h.joined,(cell_nk (by omega)).trans h.began,(cell_nk (by omega)).trans h.wait,(cell_nk (by omega)).trans h.ended,(cell_nk (by omega)).trans h.tries,(cell_nk (by omega)).trans h.off,(cell_nk (by omega)).trans h.free,(cell_nk (by omega)).trans h.block,(cell_nk (by omega)).trans h.count,⟨v,World.cell?_setCell_same _ _ _ hg,hN.setX hG4⟩,fun j=>by rw [World.frozen?_setCell]; exact h.zob j,fun j=>by rw [World.frozen?_setCell]; exact h.zsb j,hok⟩
theorem RAt.got0 {w:World} {F:Nat → Prop} {A:RAd} {c:Cfg} {now:Nat} {s:RS} {on:List UInt8} (h:RAt w F A c now s on):RAt (w.setCell ⟨A.sb,12,none⟩ (.slice none 0 0)) F A c now { s with got:=[] } on:=h.got' _ _ (GAt.nil w F) (fun _ x=>x) h.ok
theorem stops_any (F:Nat → Prop) (A:RAd) (c:Cfg) (now:Nat) (s:RS) (on:List UInt8) (w:World) (h:RAt w F A c now s on) :
  Calls Tryz.prog 137 #[.pointer (some ⟨A.yb,0,none⟩),.int .i64 A.i] w fun e w'=>RDoes w F A c now { s with mode:=0,got:=[] } on e w':=by
 have hi:=h.ok.i
 have n1:=h.ok.h3
 have n2:=h.ok.h5
 have n1':=Ne.symm n1
 have n2':=Ne.symm n2
 have d1:=h.lst
 have d2:=h.ptr
 have c0:=h.mode
 obtain ⟨v,c12,_⟩:=h.got
 have f0:=h.zsb 0
 have f12:=h.zsb 12
 have H:=hide h
 clear h
 go_enter Tryz.func137,Tryz.ntmps137
 go_wp2
 go_end0
 exact ⟨rfl,(H.out.mode' 0).got0,(((RB.refl A w).setS H.out.ok.h6 0 _).setS H.out.ok.h6 12 _)⟩
def ranswers (c:Cfg) (now:Nat) (s:RS):RS:=if s.busy then { s with got:=[],count:=0,mode:=0 } else { s with got:=[],count:=0,mode:=3,began:=now,wait:=c.lost }
set_option maxRecDepth 1000000 in
theorem answers_any (F:Nat → Prop) (A:RAd) (c:Cfg) (now:Nat) (s:RS) (on:List UInt8) (w:World) (h:RAt w F A c now s on) :
  Calls Tryz.prog 136 #[.pointer (some ⟨A.yb,0,none⟩),.int .i64 A.i] w fun e w'=>RDoes w F A c now (ranswers c now s) (shortB (if s.busy then 9 else 7)) e w':=by
 have hi:=h.ok.i
 have n1:=h.ok.h3
 have n2:=h.ok.h5
 have n1':=Ne.symm n1
 have n2':=Ne.symm n2
 have d1:=h.lst
 have d2:=h.ptr
 have c0:=h.mode
 have c1:=h.busy
 have c11:=h.count
 obtain ⟨v,c12,_⟩:=h.got
 have f0:=h.zsb 0
 have f11:=h.zsb 11
 have f12:=h.zsb 12
 have kl:=h.cfg.2.2.2.2.2.2.2.1
 have H:=hide h
 clear h
 cases hb:s.busy
 ·have HE:Hid (ranswers c now s = { s with got:=[],count:=0,mode:=3,began:=now,wait:=c.lost }):=by simp [Hid,ranswers,hb]
  rw [hb] at c1
  go_enter Tryz.func136,Tryz.ntmps136
  go_wp2_with fail
  refine (waits_any F A c now c.lost _ on _ (((H.out.got0.count' 0).mode' 0).mode' 3)).mono ?_
  rintro e w2 ⟨rfl,h2,b2⟩
  have B2:=hide ((((((RB.refl A w).setS H.out.ok.h6 12 _).setS H.out.ok.h6 11 _).setS H.out.ok.h6 0 _).setS H.out.ok.h6 0 _).trans b2)
  have H2:=hide h2
  clear h2 b2 d1 d2 c0 c1 c11 c12 f0 f11 f12 kl
  go_wp2_with fail
  refine (says_any F A c now 7 _ on _ H2.out (by omega)).mono ?_
  rintro e w3 ⟨rfl,h3,b3⟩
  go_wp2
  go_end0
  rw [HE.out]
  exact ⟨rfl,h3,B2.out.trans b3⟩
 ·have HE:Hid (ranswers c now s = { s with got:=[],count:=0,mode:=0 }):=by simp [Hid,ranswers,hb]
  rw [hb] at c1
  go_enter Tryz.func136,Tryz.ntmps136
  go_wp2_with fail
  refine (says_any F A c now 9 _ on _ ((H.out.got0.count' 0).mode' 0) (by omega)).mono ?_
  rintro e w3 ⟨rfl,h3,b3⟩
  go_wp2
  go_end0
  rw [HE.out]
  exact ⟨rfl,h3,((((RB.refl A w).setS H.out.ok.h6 12 _).setS H.out.ok.h6 11 _).setS H.out.ok.h6 0 _).trans b3⟩
def rends (now i kind:Nat) (s:RS):RS × Option Ev:=({ s with q:=s.q.tail,mode:=0,ended:=now },some ⟨kind,i,s.joined - s.q.length + 1,noMsg⟩)
/-- What a method that answers an event leaves. -/
def RTells (w:World) (F:Nat → Prop) (A:RAd) (c:Cfg) (now:Nat) (r:RS × Option Ev) (on:List UInt8) (e:Ending) (w':World):Prop:=e = .returned (evV r.2) ∧ RAt w' (Plus F w) A c now r.1 on ∧ RB A w w'
theorem RAd.Ok.plus {A:RAd} {F:Nat → Prop} {w:World} (h:A.Ok F) (h1:A.yb < w.heap.size) (h2:A.sl < w.heap.size) (h3:A.ob < w.heap.size) (h4:A.sb < w.heap.size):A.Ok (Plus F w) :=
 ⟨h.i,h.h1,h.h2,h.h3,h.h4,h.h5,h.h6,fun x=>x.elim h.f1 (fun y=>by omega),fun x=>x.elim h.f2 (fun y=>by omega),fun x=>x.elim h.f3 (fun y=>by omega),fun x=>x.elim h.f4 (fun y=>by omega)⟩
theorem RAt.mono {w:World} {F G:Nat → Prop} {A:RAd} {c:Cfg} {now:Nat} {s:RS} {on:List UInt8} (h:RAt w F A c now s on) (hFG:∀ g,F g → G g) (hok:A.Ok G):RAt w G A c now s on:=by
 obtain ⟨v,hv,hq⟩:=h.que
 obtain ⟨g,hg,hG⟩:=h.got
 exact ⟨h.cfg,h.now,h.lst,h.onl,h.ptr,h.on,h.mode,h.busy,⟨v,hv,hq.mono hFG⟩,h.joined,h.began,h.wait,h.ended,h.tries,h.off,h.free,h.block,h.count,⟨g,hg,hG.mono hFG⟩,h.zob,h.zsb,hok⟩
theorem RAt.okP {w u:World} {F:Nat → Prop} {A:RAd} {c:Cfg} {now:Nat} {s:RS} {on:List UInt8} (h:RAt u F A c now s on) (hs:u.heap.size ≤ w.heap.size):A.Ok (Plus F w):=h.ok.plus (Nat.lt_of_lt_of_le h.lyb hs) (Nat.lt_of_lt_of_le h.lsl hs) (Nat.lt_of_lt_of_le h.lob hs) (Nat.lt_of_lt_of_le h.lsb hs)
theorem EvAt.rb {A:RAd} {w w':World} {g:Nat} {v0 v1 v2 v3 v4 v5:Value} (h:EvAt w g v0 v1 v2 v3 v4 v5) (k:RB A w w') (h1:g ≠ A.sb) (h2:g ≠ A.ob):EvAt w' g v0 v1 v2 v3 v4 v5:=(k.block g h.lt h1 h2).trans h
/-- The event that is made first. -/
theorem rends_cells {F:Nat → Prop} {A:RAd} {c:Cfg} {now:Nat} {s:RS} {on:List UInt8} {w W:World} {v:Value} (h:RAt w F A c now s on) (hv:w.cell? ⟨A.sb,2,none⟩ = some v) (hb:Below w.heap.size w W):Below w.heap.size w W ∧ W.cell? ⟨A.sb,3,none⟩ = some (.int .i64 s.joined) ∧ W.cell? ⟨A.sb,2,none⟩ = some v :=
 ⟨hb,(hb.cell (p:=⟨A.sb,3,none⟩) h.lsb).trans h.joined,(hb.cell (p:=⟨A.sb,2,none⟩) h.lsb).trans hv⟩
theorem RB.new {A:RAd} {u w:World} (h:RB A u w) {g:Nat} (hg:u.heap.size ≤ g) (_h1:A.sb < u.heap.size) (h2:A.ob < u.heap.size) (k:Nat) (v:Value):RB A u (w.setCell ⟨g,k,none⟩ v) :=
 ⟨h.os,h.tape,h.output,by simpa using h.size,fun i hi a b=>(Below.heap_setCell _ _ _ _ (fun e=>by simp only at e; omega)).trans (h.block i hi a b),fun j hj=>(cell_ne (by omega)).trans (h.cell j hj),fun j=>(World.frozen?_setCell _ _ _ _).trans (h.zob j),fun j=>(World.frozen?_setCell _ _ _ _).trans (h.zsb j)⟩
theorem RB.ev {A:RAd} {u w:World} (h:RB A u w) {g:Nat} (hg:u.heap.size ≤ g) (h1:A.sb < u.heap.size) (h2:A.ob < u.heap.size) (u0 u1 u2 u3 u4 u5:Value):RB A u ((((((w.setCell ⟨g,0,none⟩ u0).setCell ⟨g,1,none⟩ u1).setCell ⟨g,2,none⟩ u2).setCell ⟨g,3,none⟩ u3).setCell ⟨g,4,none⟩ u4).setCell ⟨g,5,none⟩ u5) :=
 ((((((h.new hg h1 h2 0 u0).new hg h1 h2 1 u1).new hg h1 h2 2 u2).new hg h1 h2 3 u3).new hg h1 h2 4 u4).new hg h1 h2 5 u5)
theorem RAt.new {w:World} {F:Nat → Prop} {A:RAd} {c:Cfg} {now:Nat} {s:RS} {on:List UInt8} (h:RAt w F A c now s on) {g:Nat} (hg:¬ F g) (g1:g ≠ A.yb) (g2:g ≠ A.sl) (g3:g ≠ A.ob) (g4:g ≠ A.sb) (k:Nat) (v:Value):RAt (w.setCell ⟨g,k,none⟩ v) F A c now s on:=by
 obtain ⟨q,hv,hq⟩:=h.que
 obtain ⟨t,ht,hT⟩:=h.got
 exact ⟨h.cfg.setX g1,(cell_ne g1).trans h.now,(cell_ne g1).trans h.lst,(cell_ne g1).trans h.onl,(cell_ne g2).trans h.ptr,(cell_ne g3).trans h.on,(cell_ne g4).trans h.mode,(cell_ne g4).trans h.busy,⟨q,(cell_ne g4).trans hv,hq.setX hg⟩,(cell_ne g4).trans h.joined,(cell_ne g4).trans h.began,(cell_ne g4).trans h.wait,(cell_ne g4).trans h.ended,(cell_ne g4).trans h.tries,(cell_ne g4).trans h.off,(cell_ne g4).trans h.free,(cell_ne g4).trans h.block,(cell_ne g4).trans h.count,⟨t,(cell_ne g4).trans ht,hT.setX hg⟩,fun j=>(World.frozen?_setCell _ _ _ _).trans (h.zob j),fun j=>(World.frozen?_setCell _ _ _ _).trans (h.zsb j),h.ok⟩
theorem rev_end {w:World} {F:Nat → Prop} {A:RAd} {c:Cfg} {now:Nat} {s:RS} {on:List UInt8} (h:RAt w F A c now s on) {g:Nat} (hg:¬ F g) (g1:g ≠ A.yb) (g2:g ≠ A.sl) (g3:g ≠ A.ob) (g4:g ≠ A.sb) (u0 u1 u2 u3 u4 u5:Value):RAt ((((((w.setCell ⟨g,0,none⟩ u0).setCell ⟨g,1,none⟩ u1).setCell ⟨g,2,none⟩ u2).setCell ⟨g,3,none⟩ u3).setCell ⟨g,4,none⟩ u4).setCell ⟨g,5,none⟩ u5) F A c now s on :=
 ((((((h.new hg g1 g2 g3 g4 0 u0).new hg g1 g2 g3 g4 1 u1).new hg g1 g2 g3 g4 2 u2).new hg g1 g2 g3 g4 3 u3).new hg g1 g2 g3 g4 4 u4).new hg g1 g2 g3 g4 5 u5)
theorem EvAt.atR {w:World} {g:Nat} (hg:w.heap.size = g) (v0 v1 v2 v3 v4 v5:Value):EvAt (w.alloc (.cells #[v0,v1,v2,v3,v4,v5] 62)).drew g v0 v1 v2 v3 v4 v5:=EvAt.new hg _ _ _ _ _ _
theorem wrap_id (x:Int) (h1:-1000000000000000000 ≤ x) (h2:x ≤ 1000000000000000000):IntKind.i64.wrap x = x:=by
 rw [IntKind.wrap_i64]
 omega
set_option maxRecDepth 1000000 in
theorem ends_any (F:Nat → Prop) (A:RAd) (c:Cfg) (now k:Nat) (s:RS) (on:List UInt8) (w:World) (h:RAt w F A c now s on) (hF:∀ x,F x → x < w.heap.size) (hj:s.q.length ≤ s.joined) (hm:s.joined ≤ 1000000000000000) (hn:s.q.length ≤ 100) (ON:List UInt8) (hON:ON = if s.mode = 2 then shortB 5 else on) :
  Calls Tryz.prog 138 #[.pointer (some ⟨A.yb,0,none⟩),.int .i64 A.i,.int .i64 k] w fun e w'=>RTells w F A c now (rends now A.i k s) ON e w':=by
 have HON:=hide hON
 clear hON
 have hi:=h.ok.i
 have lsb:=h.lsb
 have lyb:=h.lyb
 have lsl:=h.lsl
 have lob:=h.lob
 have e1:A.sb ≠ w.heap.size:=by omega
 have e2:A.yb ≠ w.heap.size:=by omega
 have e3:A.sl ≠ w.heap.size:=by omega
 obtain ⟨v,c2,hv⟩:=h.que
 obtain ⟨a,cap,rfl⟩:=hv.form
 have HV:=hide hv
 have d1:=h.lst
 have d2:=h.ptr
 have H:=hide h
 have HN:Hid (((s.joined - s.q.length + 1:Nat):Int) = (s.joined:Int) - (s.q.length:Int) + 1):=by unfold Hid; omega
 clear h hv
 go_enter Tryz.func138,Tryz.ntmps138
 go_wp2_with fail
 refine wp_at (fun W=>Below w.heap.size w W ∧ Ev0 W w.heap.size) ⟨(Below.refl _ _).alloc (Nat.le_refl _) _,EvAt.new rfl _ _ _ _ _ _⟩ ?_
 rintro W0 ⟨hb0,E0⟩
 have HB0:=hide hb0
 have HE0:=hide E0
 have H0:=hide (H.out.below hb0)
 have c20:=(hb0.cell (p:=⟨A.sb,2,none⟩) lsb).trans c2
 have c3:=H0.out.joined
 have hz0:w.heap.size < W0.heap.size:=E0.lt
 clear hb0 E0 d1 d2
 have hw1:=wrap_id ((s.joined:Int) - (s.q.length:Int)) (by omega) (by omega)
 have hw2:=wrap_id ((s.joined:Int) - (s.q.length:Int) + 1) (by omega) (by omega)
 go_region_held3 (fun W=>Below W0.heap.size W0 W ∧ W.cell? ⟨A.sb,3,none⟩ = some (.int .i64 s.joined) ∧ W.cell? ⟨A.sb,2,none⟩ = some (.slice a s.q.length cap)) ((refine rends_cells H0.out c20 ?_; repeat' (with_reducible (first | apply Below.drew | apply below_drewN | apply Below.allocN | (refine Below.setN ?_ (by omega) _ _) | exact Below.refl _ _)))) (fail)
 refine exit_at (fun W=>Below W0.heap.size W0 W ∧ EvAt W W0.heap.size (.int .i64 k) (.int .i64 A.i) (.int .i64 ((s.joined - s.q.length + 1:Nat):Int)) (.string ⟨#[]⟩) (.string ⟨#[]⟩) (.bool false)) ⟨Below.drew (Below.allocN (Below.refl _ _) _),?_⟩ ?_
 ·rw [HN.out]
  first | exact EvAt.atR rfl _ _ _ _ _ _ | (rw [hw1,hw2]; exact EvAt.atR rfl _ _ _ _ _ _)
 rintro W1 ⟨hb1,E1⟩
 have H1:=hide (H0.out.below hb1)
 have V1:=hide (EvAt.below HE0.out hb1)
 have HE1:=hide E1
 have HB1:=hide (below_step HB0.out hb1)
 have B1:=hide ((RB.refl A w).below lob lsb (below_step HB0.out hb1))
 have c0:=H1.out.mode
 have hz1:=E1.lt
 clear hb1 E1 c3 c20
 by_cases m2:s.mode = 2
 ·rw [m2] at c0
  go_wp2_with fail
  refine (says_any F A c now 5 s on _ H1.out (by omega)).mono ?_
  rintro e W2 ⟨rfl,h2,b2⟩
  have H2:=hide h2
  have B2:=hide (B1.out.trans b2)
  have E2:=hide (HE1.out.rb b2 (by omega) (by omega))
  have V2:=hide (EvAt.rb V1.out b2 (by omega) (by omega))
  obtain ⟨vq,q2,hvq⟩:=h2.que
  obtain ⟨aq,capq,rfl⟩:=hvq.form
  have HV2:=hide hvq
  have HON2:Hid (ON = shortB 5):=by rw [Hid,HON.out,if_pos m2]
  clear h2 b2 c0 hvq m2
  go_wp2
  go_loopw [9,10] (fun x i wr=>∃ t:Nat,(t = 0 ∨ t + 1 ≤ s.q.length) ∧ i = .int .i64 (t + 1:Nat) ∧ OwnM wr W2.heap.size x (s.q.tail.take t) ∧ Below W2.heap.size W2 wr) (fun _ i _=>s.q.length + 1 - (intOf i).toNat)
  case atStart=>exact ⟨0,Or.inl rfl,rfl,World.ownsRow_nil W2 _ _ _,Below.refl _ _⟩
  case round =>
   obtain ⟨t,hk,rfl,hown,hbel⟩:=hrel
   have hsw:=B2.out.size
   have hzw:w.heap.size < W2.heap.size:=by have:=EvAt.lt V2.out; exact this
   have hs2:=H2.out.lsb
   have q1:=(hbel.cell (p:=⟨A.sb,2,none⟩) hs2).trans q2
   by_cases hlt2:t + 1 < s.q.length
   ·obtain ⟨g,cap',e,_,_,hg,hc⟩:=HV2.out.some (by intro e; rw [e] at hlt2; simp at hlt2)
    simp only [Value.slice.injEq] at e
    obtain ⟨rfl,_,rfl⟩:=e
    obtain ⟨z0,z1,z2⟩:=hc (t + 1) hlt2
    rw [← hbel.cell (p:=⟨g,_,none⟩) hg] at z0 z1 z2
    have HT:=hide (take_tail_succ s.q t hlt2)
    generalize s.q.getD (t + 1) noMsg = m at *
    have hlt3:((t + 1:Nat):Int) < (s.q.length:Int):=by omega
    have HBel:=hide hbel
    have hl1:(s.q.tail.take t).length ≤ 1000000000000:=by simp; omega
    have hB:=hbel.size
    clear hc
    go_wp2_with (at_builtin; refine app_msg _ m rfl (.tmp 49) (.tmp 57) rfl W2.heap.size _ _ _ 1 rfl rfl rfl hown hl1 W2 HBel.out hB ?_; intro x' w' hown' hbel' hB')
    go_roundw
    case rel=>exact ⟨t + 1,Or.inr (by omega),by go_num,by rw [HT.out]; exact hown',hbel'⟩
    case measure=>simp [intOf]; omega
   ·have hlt3:¬ ((t + 1:Nat):Int) < (s.q.length:Int):=by omega
    have HT:Hid (s.q.tail.take t = s.q.tail):=List.take_of_length_le (by rw [List.length_tail]; omega)
    rw [HT.out] at hown
    obtain ⟨a2,cap2,rfl⟩:=hown.form
    have hsz2:=hbel.size
    have HQ:=hide ((hown.q).mono (G:=fun x=>F x ∨ W2.heap.size ≤ x) (fun g hg=>Or.inr hg))
    have H3:=hide (H2.out.below hbel)
    have B3:=hide (B2.out.below H2.out.lob H2.out.lsb hbel)
    have E3:=hide (EvAt.below E2.out hbel)
    have V3:=hide (EvAt.below V2.out hbel)
    have hok:A.Ok (fun x=>F x ∨ W2.heap.size ≤ x):=H2.out.okP (w:=W2) (Nat.le_refl _)
    have hgn:¬ (F w.heap.size ∨ W2.heap.size ≤ w.heap.size):=fun x=>x.elim (fun y=>by have:=hF _ y; omega) (fun y=>by omega)
    have hokP:=H.out.okP (w:=w) (Nat.le_refl _)
    have HK4:=hide (((H3.out.que' _ _ HQ.out (fun g hg=>Or.inl hg) hok).mode' 0).ended' now)
    have HK5:=hide (((B3.out.setS H.out.ok.h6 2 (.slice a2 s.q.tail.length cap2)).setS H.out.ok.h6 0 (.int .i64 (0:Nat))).setS H.out.ok.h6 6 (.int .i64 now))
    have g2:=H3.out.zsb 2
    have g0:=H3.out.zsb 0
    have g6:=H3.out.zsb 6
    have r0:=H3.out.mode
    have r6:=H3.out.ended
    have rn:=H3.out.now
    have n1:=H.out.ok.h3
    have n1':=Ne.symm n1
    obtain ⟨x0,x1,x2,x3,x4,x5⟩:=EvAt.cell E3.out
    obtain ⟨⟨v0,v1,v2,v3,v4,v5⟩,w0,w1,w2,w3,w4,w5⟩:=Ev0.all V3.out
    have m1:A.sb ≠ w.heap.size:=by omega
    have m2:A.sb ≠ W0.heap.size:=by omega
    generalize s.q.tail.length = z2 at *
    clear hown hbel
    go_wp2
    (try simp only [Exit.inBlock,Exit.then])
    have V4:=hide (EvAt.rb V3.out ((((RB.refl A wr).setS H.out.ok.h6 2 (.slice a2 z2 cap2)).setS H.out.ok.h6 0 (.int .i64 (0:Nat))).setS H.out.ok.h6 6 (.int .i64 now)) (by omega) (by omega))
    refine bodyPost_ret (results_ev rfl _ _ w.heap.size rfl (EvAt.all V4.out)) rfl ?_
    rw [HON2.out]
    exact ⟨rfl,(rev_end HK4.out hgn (by omega) (by omega) (by omega) (by omega) _ _ _ _ _ _).mono (fun x hx=>hx.elim Or.inl (fun y=>Or.inr (by omega))) hokP,RB.ev HK5.out (Nat.le_refl _) lsb lob _ _ _ _ _ _⟩
 ·have m2':((s.mode:Int) == 2) = false:=by simp; omega
  have HON2:Hid (ON = on):=by rw [Hid,HON.out,if_neg m2]
  obtain ⟨vq,q2,hvq⟩:=H1.out.que
  obtain ⟨aq,capq,rfl⟩:=hvq.form
  have HV2:=hide hvq
  have H2:=H1
  have B2:=B1
  have E2:=HE1
  have V2:=V1
  clear hvq m2
  go_wp2
  go_loopw [9,10] (fun x i wr=>∃ t:Nat,(t = 0 ∨ t + 1 ≤ s.q.length) ∧ i = .int .i64 (t + 1:Nat) ∧ OwnM wr W1.heap.size x (s.q.tail.take t) ∧ Below W1.heap.size W1 wr) (fun _ i _=>s.q.length + 1 - (intOf i).toNat)
  case atStart=>exact ⟨0,Or.inl rfl,rfl,World.ownsRow_nil W1 _ _ _,Below.refl _ _⟩
  case round =>
   obtain ⟨t,hk,rfl,hown,hbel⟩:=hrel
   have hsw:=B2.out.size
   have hzw:w.heap.size < W1.heap.size:=by have:=EvAt.lt V2.out; exact this
   have hs2:=H2.out.lsb
   have q1:=(hbel.cell (p:=⟨A.sb,2,none⟩) hs2).trans q2
   by_cases hlt2:t + 1 < s.q.length
   ·obtain ⟨g,cap',e,_,_,hg,hc⟩:=HV2.out.some (by intro e; rw [e] at hlt2; simp at hlt2)
    simp only [Value.slice.injEq] at e
    obtain ⟨rfl,_,rfl⟩:=e
    obtain ⟨z0,z1,z2⟩:=hc (t + 1) hlt2
    rw [← hbel.cell (p:=⟨g,_,none⟩) hg] at z0 z1 z2
    have HT:=hide (take_tail_succ s.q t hlt2)
    generalize s.q.getD (t + 1) noMsg = m at *
    have hlt3:((t + 1:Nat):Int) < (s.q.length:Int):=by omega
    have HBel:=hide hbel
    have hl1:(s.q.tail.take t).length ≤ 1000000000000:=by simp; omega
    have hB:=hbel.size
    clear hc
    go_wp2_with (at_builtin; refine app_msg _ m rfl (.tmp 49) (.tmp 57) rfl W1.heap.size _ _ _ 1 rfl rfl rfl hown hl1 W1 HBel.out hB ?_; intro x' w' hown' hbel' hB')
    go_roundw
    case rel=>exact ⟨t + 1,Or.inr (by omega),by go_num,by rw [HT.out]; exact hown',hbel'⟩
    case measure=>simp [intOf]; omega
   ·have hlt3:¬ ((t + 1:Nat):Int) < (s.q.length:Int):=by omega
    have HT:Hid (s.q.tail.take t = s.q.tail):=List.take_of_length_le (by rw [List.length_tail]; omega)
    rw [HT.out] at hown
    obtain ⟨a2,cap2,rfl⟩:=hown.form
    have hsz2:=hbel.size
    have HQ:=hide ((hown.q).mono (G:=fun x=>F x ∨ W1.heap.size ≤ x) (fun g hg=>Or.inr hg))
    have H3:=hide (H2.out.below hbel)
    have B3:=hide (B2.out.below H2.out.lob H2.out.lsb hbel)
    have E3:=hide (EvAt.below E2.out hbel)
    have V3:=hide (EvAt.below V2.out hbel)
    have hok:A.Ok (fun x=>F x ∨ W1.heap.size ≤ x):=H2.out.okP (w:=W1) (Nat.le_refl _)
    have hgn:¬ (F w.heap.size ∨ W1.heap.size ≤ w.heap.size):=fun x=>x.elim (fun y=>by have:=hF _ y; omega) (fun y=>by omega)
    have hokP:=H.out.okP (w:=w) (Nat.le_refl _)
    have HK4:=hide (((H3.out.que' _ _ HQ.out (fun g hg=>Or.inl hg) hok).mode' 0).ended' now)
    have HK5:=hide (((B3.out.setS H.out.ok.h6 2 (.slice a2 s.q.tail.length cap2)).setS H.out.ok.h6 0 (.int .i64 (0:Nat))).setS H.out.ok.h6 6 (.int .i64 now))
    have g2:=H3.out.zsb 2
    have g0:=H3.out.zsb 0
    have g6:=H3.out.zsb 6
    have r0:=H3.out.mode
    have r6:=H3.out.ended
    have rn:=H3.out.now
    have n1:=H.out.ok.h3
    have n1':=Ne.symm n1
    obtain ⟨x0,x1,x2,x3,x4,x5⟩:=EvAt.cell E3.out
    obtain ⟨⟨v0,v1,v2,v3,v4,v5⟩,w0,w1,w2,w3,w4,w5⟩:=Ev0.all V3.out
    have m1:A.sb ≠ w.heap.size:=by omega
    have m2:A.sb ≠ W0.heap.size:=by omega
    generalize s.q.tail.length = z2 at *
    clear hown hbel
    go_wp2
    (try simp only [Exit.inBlock,Exit.then])
    have V4:=hide (EvAt.rb V3.out ((((RB.refl A wr).setS H.out.ok.h6 2 (.slice a2 z2 cap2)).setS H.out.ok.h6 0 (.int .i64 (0:Nat))).setS H.out.ok.h6 6 (.int .i64 now)) (by omega) (by omega))
    refine bodyPost_ret (results_ev rfl _ _ w.heap.size rfl (EvAt.all V4.out)) rfl ?_
    rw [HON2.out]
    exact ⟨rfl,(rev_end HK4.out hgn (by omega) (by omega) (by omega) (by omega) _ _ _ _ _ _).mono (fun x hx=>hx.elim Or.inl (fun y=>Or.inr (by omega))) hokP,RB.ev HK5.out (Nat.le_refl _) lsb lob _ _ _ _ _ _⟩
end Go.Proofs.YtlbpjcphhocdkaaGreat
