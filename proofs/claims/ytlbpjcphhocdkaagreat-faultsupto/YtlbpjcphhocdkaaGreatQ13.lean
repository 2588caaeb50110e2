/- The document's station is put off. The document's station: its wait is over. Plain: the document's station, its fields, against the model's. -/
import Derived.Test.YtlbpjcphhocdkaaGreatQ12
import Derived.Test.YtlbpjcphhocdkaaGreatQ08
set_option maxRecDepth 1000000
set_option maxHeartbeats 16000000
namespace Go.Proofs.YtlbpjcphhocdkaaGreat
open Go.RowKit Go.Proofs.YtlbpjcphhocdkaaGreat.Mod Go.Proofs.YtlbpjcphhocdkaaGreat.Pst
def rlater (c:Cfg) (now i:Nat) (s:RS):RS × Option Ev :=
 if s.off + 1 > c.waits then rends now i 3 { s with off:=s.off + 1 } else ({ s with off:=s.off + 1,free:=true,began:=now,wait:=patience c i s.mode },none)
/-- How a method ends that answers an event. -/
theorem rend {w w4:World} {F G:Nat → Prop} {A:RAd} {c:Cfg} {now g:Nat} {s s':RS} {on on':List UInt8} (h:RAt w4 G A c now s on) (B:RB A w w4) (hG:∀ x,G x → Plus F w x) (hg:¬ G g) (hgw:w.heap.size ≤ g) (h0:RAt w F A c now s' on') (u0 u1 u2 u3 u4 u5:Value) :
  RAt ((((((w4.setCell ⟨g,0,none⟩ u0).setCell ⟨g,1,none⟩ u1).setCell ⟨g,2,none⟩ u2).setCell ⟨g,3,none⟩ u3).setCell ⟨g,4,none⟩ u4).setCell ⟨g,5,none⟩ u5) (Plus F w) A c now s on ∧
  RB A w ((((((w4.setCell ⟨g,0,none⟩ u0).setCell ⟨g,1,none⟩ u1).setCell ⟨g,2,none⟩ u2).setCell ⟨g,3,none⟩ u3).setCell ⟨g,4,none⟩ u4).setCell ⟨g,5,none⟩ u5):=by
 have a1:=h0.lyb
 have a2:=h0.lsl
 have a3:=h0.lob
 have a4:=h0.lsb
 exact ⟨(rev_end h hg (by omega) (by omega) (by omega) (by omega) _ _ _ _ _ _).mono hG (h0.okP (Nat.le_refl _)),RB.ev B hgw a4 a3 _ _ _ _ _ _⟩
set_option maxRecDepth 1000000 in
theorem later_any (F:Nat → Prop) (A:RAd) (c:Cfg) (now:Nat) (s:RS) (on:List UInt8) (w:World) (h:RAt w F A c now s on) (hF:∀ x,F x → x < w.heap.size) (hj:s.q.length ≤ s.joined) (hm:s.joined ≤ 1000000000000000) (hn:s.q.length ≤ 100) (ho:s.off ≤ 1000) (ON:List UInt8) (hON:ON = if s.off + 1 > c.waits ∧ s.mode = 2 then shortB 5 else on) :
  Calls Tryz.prog 146 #[.pointer (some ⟨A.yb,0,none⟩),.int .i64 A.i] w fun e w'=>RTells w F A c now (rlater c now A.i s) ON e w':=by
 have hi:=h.ok.i
 have lsb:=h.lsb
 have lyb:=h.lyb
 have lsl:=h.lsl
 have lob:=h.lob
 have e1:A.sb ≠ w.heap.size:=by omega
 have e2:A.yb ≠ w.heap.size:=by omega
 have e3:A.sl ≠ w.heap.size:=by omega
 have d1:=h.lst
 have d2:=h.ptr
 have c8:=h.off
 have f8:=h.zsb 8
 have n1':=Ne.symm h.ok.h3
 have n2':=Ne.symm h.ok.h5
 have HON:=hide hON
 have H:=hide h
 clear h hON
 go_enter Tryz.func146,Tryz.ntmps146
 go_wp2_with fail
 refine wp_at (fun W=>RAt W F A c now { s with off:=s.off + 1 } on ∧ RB A w W ∧ Ev0 W w.heap.size) ⟨(H.out.off' (s.off + 1)).below (Below.allocN (Below.refl _ _) _),((RB.refl A w).setS H.out.ok.h6 8 _).below (by simpa using lob) (by simpa using lsb) (Below.allocN (Below.refl _ _) _),EvAt.new (by simp) _ _ _ _ _ _⟩ ?_
 rintro W ⟨h0,b0,E0⟩
 have g8:=h0.off
 obtain ⟨k0,k1,k2,k3,k4,k5,k6,k7,k8,k9⟩:=h0.cfg
 have H0:=hide h0
 have B0:=hide b0
 have V0:=hide E0
 have hz:w.heap.size < W.heap.size:=E0.lt
 simp only at g8
 clear h0 b0 E0 d1 d2 c8 f8
 by_cases hw:s.off + 1 > c.waits
 ·have HE:Hid (rlater c now A.i s = rends now A.i 3 { s with off:=s.off + 1 }):=by simp [Hid,rlater,hw]
  have HO2:Hid (ON = if s.mode = 2 then shortB 5 else on):=by rw [Hid,HON.out]; simp [hw]
  have hw':(c.waits:Int) < ((s.off + 1:Nat):Int):=by omega
  generalize s.off + 1 = off1 at *
  go_quiet (fail)
  go_wp2_with fail
  refine (ends_any F A c now 3 _ on _ (H0.out.drewN nq) (fun x hx=>by have:=hF x hx; have:w.heap.size < (W.drewN nq).heap.size:=hz; omega) hj hm hn ON HO2.out).mono ?_
  rintro e w2 ⟨rfl,h2,b2⟩
  have B2:=hide ((B0.out.below H0.out.lob H0.out.lsb (below_drewN (Below.refl _ _) nq)).trans b2)
  have V2:=hide (EvAt.rb (EvAt.drewN V0.out nq) b2 (by omega) (by omega))
  obtain ⟨⟨x0,x1,x2,x3,x4,x5⟩,q0,q1,q2,q3,q4,q5⟩:=Ev0.all V2.out
  have H2:=hide h2
  clear h2 b2 k0 k1 k2 k3 k4 k5 k6 k7 k8 k9 g8
  simp only [rends,evV]
  go_wp2
  (try simp only [Exit.inBlock,Exit.then])
  refine bodyPost_ret (results_ev rfl _ _ w.heap.size rfl (EvAt.all V2.out)) rfl ?_
  rw [HE.out]
  exact ⟨rfl,rend H2.out B2.out (fun x hx=>hx.elim Or.inl (fun y=>Or.inr (Nat.le_trans (Nat.le_of_lt hz) y))) (fun x=>x.elim (fun y=>by have:=hF _ y; omega) (fun y=>by have:W.heap.size ≤ w.heap.size:=y; omega)) (Nat.le_refl _) H.out _ _ _ _ _ _⟩
 ·have HE:Hid (rlater c now A.i s = ({ s with off:=s.off + 1,free:=true,began:=now,wait:=patience c A.i s.mode },none)):=by simp [Hid,rlater,hw]
  have HO2:Hid (ON = on):=by rw [Hid,HON.out]; simp [hw]
  have hw':¬ (c.waits:Int) < ((s.off + 1:Nat):Int):=by omega
  have g9:=H0.out.free
  have f9:=H0.out.zsb 9
  generalize s.off + 1 = off1 at *
  go_quiet (fail)
  go_wp2_with fail
  refine (patience_any F A c now _ on _ ((H0.out.drewN nq).free' true)).mono ?_
  rintro e w1 ⟨rfl,hw1⟩
  subst hw1
  go_wp2_with fail
  refine (waits_any F A c now (patience c A.i s.mode) _ on _ ((H0.out.drewN nq).free' true)).mono ?_
  rintro e w2 ⟨rfl,h2,b2⟩
  have b3:=((RB.refl A W).below H0.out.lob H0.out.lsb (below_drewN (Below.refl _ _) nq)).setS H.out.ok.h6 9 (.bool true) |>.trans b2
  have B2:=hide (B0.out.trans b3)
  have V2:=hide (EvAt.rb V0.out b3 (by omega) (by omega))
  obtain ⟨⟨x0,x1,x2,x3,x4,x5⟩,q0,q1,q2,q3,q4,q5⟩:=Ev0.all V2.out
  have H2:=hide h2
  clear h2 b2 b3 k0 k1 k2 k3 k4 k5 k6 k7 k8 k9 g8 g9 f9
  go_wp2
  (try simp only [Exit.inBlock,Exit.then])
  refine bodyPost_ret (results_ev rfl _ _ w.heap.size rfl (EvAt.all V2.out)) rfl ?_
  rw [HE.out,HO2.out]
  exact ⟨rfl,rend H2.out B2.out (fun x hx=>Or.inl hx) (fun y=>by have:=hF _ y; omega) (Nat.le_refl _) H.out _ _ _ _ _ _⟩
def rover (c:Cfg) (now i:Nat) (s:RS):RS × Option Ev :=
 if s.mode = 3 then ({ s with mode:=0,got:=[] },none)
 else if s.free = false ∧ s.tries > c.tries then rends now i 3 s
 else ({ s with tries:=(if s.free then s.tries else s.tries + 1),free:=false,began:=now,wait:=patience c i s.mode },none)
/-- What it has on the line behind that. -/
def roverOn (c:Cfg) (s:RS) (on:List UInt8):List UInt8 :=
 if s.mode = 3 then on else if s.free = false ∧ s.tries > c.tries then (if s.mode = 2 then shortB 5 else on) else if s.mode = 2 then shortB 4 else shortB 3
set_option maxRecDepth 1000000 in
theorem over_any (F:Nat → Prop) (A:RAd) (c:Cfg) (now:Nat) (s:RS) (on:List UInt8) (w:World) (h:RAt w F A c now s on) (hF:∀ x,F x → x < w.heap.size) (hj:s.q.length ≤ s.joined) (hm:s.joined ≤ 1000000000000000) (hn:s.q.length ≤ 100) (ht:s.tries ≤ 1000) (ON:List UInt8) (hON:ON = roverOn c s on) :
  Calls Tryz.prog 109 #[.pointer (some ⟨A.yb,0,none⟩),.int .i64 A.i] w fun e w'=>RTells w F A c now (rover c now A.i s) ON e w':=by
 have hi:=h.ok.i
 have lsb:=h.lsb
 have lyb:=h.lyb
 have lsl:=h.lsl
 have lob:=h.lob
 have HON:Hid (ON = roverOn c s on):=hON
 unfold roverOn at HON
 have H:=hide h
 clear h hON
 go_enter Tryz.func109,Tryz.ntmps109
 go_step
 go_step
 go_step
 go_step
 go_step
 go_step
 refine list_at (fun W=>RAt W F A c now s on ∧ RB A w W ∧ Ev0 W w.heap.size) ⟨H.out.below (Below.allocN (Below.refl _ _) _),(RB.refl A w).below lob lsb (Below.allocN (Below.refl _ _) _),EvAt.new rfl _ _ _ _ _ _⟩ ?_
 rintro W ⟨h0,b0,E0⟩
 have d1:=h0.lst
 have d2:=h0.ptr
 have c0:=h0.mode
 have c7:=h0.tries
 have c9:=h0.free
 have f7:=h0.zsb 7
 have f9:=h0.zsb 9
 obtain ⟨k0,k1,k2,k3,k4,k5,k6,k7,k8,k9⟩:=h0.cfg
 have H0:=hide h0
 have B0:=hide b0
 have V0:=hide E0
 have hz:w.heap.size < W.heap.size:=E0.lt
 clear h0 b0 E0
 by_cases m3:s.mode = 3
 ·have HE:Hid (rover c now A.i s = ({ s with mode:=0,got:=[] },none)):=by simp [Hid,rover,m3]
  have HO2:Hid (ON = on):=by rw [Hid,HON.out]; simp [m3]
  rw [m3] at c0
  clear m3
  go_wp2_with fail
  refine (stops_any F A c now s on _ H0.out).mono ?_
  rintro e w2 ⟨rfl,h2,b2⟩
  have B2:=hide (B0.out.trans b2)
  have V2:=hide (EvAt.rb V0.out b2 (by omega) (by omega))
  have H2:=hide h2
  clear h2 b2 d1 d2 c0 c7 c9 f7 f9 k0 k1 k2 k3 k4 k5 k6 k7 k8 k9
  obtain ⟨⟨x0,x1,x2,x3,x4,x5⟩,q0,q1,q2,q3,q4,q5⟩:=Ev0.all V2.out
  go_wp2
  (try simp only [Exit.inBlock,Exit.then])
  refine bodyPost_ret (results_ev rfl _ _ w.heap.size rfl (EvAt.all V2.out)) rfl ?_
  rw [HE.out,HO2.out]
  exact ⟨rfl,rend H2.out B2.out (fun x hx=>Or.inl hx) (fun y=>by have:=hF _ y; omega) (Nat.le_refl _) H.out _ _ _ _ _ _⟩
 ·have m3':((s.mode:Int) == 3) = false:=by simp; omega
  cases hfr:s.free
  ·rw [hfr] at c9
   by_cases hw:s.tries > c.tries
   ·have HE:Hid (rover c now A.i s = rends now A.i 3 s):=by simp [Hid,rover,m3,hfr,hw]
    have HO2:Hid (ON = if s.mode = 2 then shortB 5 else on):=by rw [Hid,HON.out]; simp [m3,hfr,hw]
    have hw':(c.tries:Int) < (s.tries:Int):=by omega
    go_wp2_with fail
    go_quiet (fail)
    go_wp2_with fail
    refine (ends_any F A c now 3 _ on _ (H0.out.drewN nq) (fun x hx=>by have:=hF x hx; have:w.heap.size < (W.drewN nq).heap.size:=hz; omega) hj hm hn ON HO2.out).mono ?_
    rintro e w2 ⟨rfl,h2,b2⟩
    have B2:=hide ((B0.out.below H0.out.lob H0.out.lsb (below_drewN (Below.refl _ _) nq)).trans b2)
    have V2:=hide (EvAt.rb (EvAt.drewN V0.out nq) b2 (by omega) (by omega))
    obtain ⟨⟨x0,x1,x2,x3,x4,x5⟩,q0,q1,q2,q3,q4,q5⟩:=Ev0.all V2.out
    have H2:=hide h2
    clear h2 b2 d1 d2 c0 c7 c9 f7 f9 k0 k1 k2 k3 k4 k5 k6 k7 k8 k9
    simp only [rends,evV]
    go_wp2
    (try simp only [Exit.inBlock,Exit.then])
    refine bodyPost_ret (results_ev rfl _ _ w.heap.size rfl (EvAt.all V2.out)) rfl ?_
    rw [HE.out]
    exact ⟨rfl,rend H2.out B2.out (fun x hx=>hx.elim Or.inl (fun y=>Or.inr (Nat.le_trans (Nat.le_of_lt hz) y))) (fun x=>x.elim (fun y=>by have:=hF _ y; omega) (fun y=>by have:W.heap.size ≤ w.heap.size:=y; omega)) (Nat.le_refl _) H.out _ _ _ _ _ _⟩
   ·have hw':¬ (c.tries:Int) < (s.tries:Int):=by omega
    go_wp2_with fail
    go_quiet (fail)
    go_wp2_with fail
    refine (patience_any F A c now _ on _ (((H0.out.drewN nq).tries' (s.tries + 1)).free' false)).mono ?_
    rintro e w1 ⟨rfl,hw1⟩
    subst hw1
    go_wp2_with fail
    refine (waits_any F A c now (patience c A.i s.mode) _ on _ (((H0.out.drewN nq).tries' (s.tries + 1)).free' false)).mono ?_
    rintro e w2 ⟨rfl,h2,b2⟩
    have b3:=((((RB.refl A W).below H0.out.lob H0.out.lsb (below_drewN (Below.refl _ _) nq)).setS H.out.ok.h6 7 (.int .i64 (s.tries + 1:Nat))).setS H.out.ok.h6 9 (.bool false)).trans b2
    have B2:=hide (B0.out.trans b3)
    have V2:=hide (EvAt.rb V0.out b3 (by omega) (by omega))
    have H2:=hide h2
    have m0:=H2.out.mode
    simp only at m0
    clear h2 b2 b3 d1 d2 c0 c7 c9 f7 f9 k0 k1 k2 k3 k4 k5 k6 k7 k8 k9
    by_cases m2:s.mode = 2
    ·have HO2:Hid (ON = shortB 4):=by rw [Hid,HON.out]; simp [m2,hfr,hw]
     have HE:Hid (rover c now A.i s = ({ s with tries:=s.tries + 1,free:=false,began:=now,wait:=patience c A.i s.mode },none)):=by simp [Hid,rover,m2,hfr,hw]
     rw [m2] at m0
     clear m2
     go_wp2_with fail
     refine (says_any F A c now 4 _ on _ H2.out (by omega)).mono ?_
     rintro e w3 ⟨rfl,h3,b3⟩
     have B3:=hide (B2.out.trans b3)
     have V3:=hide (EvAt.rb V2.out b3 (by omega) (by omega))
     have H3:=hide h3
     clear h3 b3
     obtain ⟨⟨x0,x1,x2,x3,x4,x5⟩,q0,q1,q2,q3,q4,q5⟩:=Ev0.all V3.out
     go_wp2
     (try simp only [Exit.inBlock,Exit.then])
     refine bodyPost_ret (results_ev rfl _ _ w.heap.size rfl (EvAt.all V3.out)) rfl ?_
     rw [HE.out,HO2.out]
     exact ⟨rfl,rend H3.out B3.out (fun x hx=>Or.inl hx) (fun y=>by have:=hF _ y; omega) (Nat.le_refl _) H.out _ _ _ _ _ _⟩
    ·have HO2:Hid (ON = shortB 3):=by rw [Hid,HON.out]; simp [m2,m3,hfr,hw]
     have HE:Hid (rover c now A.i s = ({ s with tries:=s.tries + 1,free:=false,began:=now,wait:=patience c A.i s.mode },none)):=by simp [Hid,rover,m3,hfr,hw]
     have m2':((s.mode:Int) == 2) = false:=by simp; omega
     clear m2
     go_wp2_with fail
     refine (says_any F A c now 3 _ on _ H2.out (by omega)).mono ?_
     rintro e w3 ⟨rfl,h3,b3⟩
     have B3:=hide (B2.out.trans b3)
     have V3:=hide (EvAt.rb V2.out b3 (by omega) (by omega))
     have H3:=hide h3
     clear h3 b3
     obtain ⟨⟨x0,x1,x2,x3,x4,x5⟩,q0,q1,q2,q3,q4,q5⟩:=Ev0.all V3.out
     go_wp2
     (try simp only [Exit.inBlock,Exit.then])
     refine bodyPost_ret (results_ev rfl _ _ w.heap.size rfl (EvAt.all V3.out)) rfl ?_
     rw [HE.out,HO2.out]
     exact ⟨rfl,rend H3.out B3.out (fun x hx=>Or.inl hx) (fun y=>by have:=hF _ y; omega) (Nat.le_refl _) H.out _ _ _ _ _ _⟩
  ·rw [hfr] at c9
   go_wp2_with fail
   refine (patience_any F A c now _ on _ (H0.out.free' false)).mono ?_
   rintro e w1 ⟨rfl,hw1⟩
   subst hw1
   go_wp2_with fail
   refine (waits_any F A c now (patience c A.i s.mode) _ on _ (H0.out.free' false)).mono ?_
   rintro e w2 ⟨rfl,h2,b2⟩
   have b3:=((RB.refl A W).setS H.out.ok.h6 9 (.bool false)).trans b2
   have B2:=hide (B0.out.trans b3)
   have V2:=hide (EvAt.rb V0.out b3 (by omega) (by omega))
   have H2:=hide h2
   have m0:=H2.out.mode
   simp only at m0
   clear h2 b2 b3 d1 d2 c0 c7 c9 f7 f9 k0 k1 k2 k3 k4 k5 k6 k7 k8 k9
   by_cases m2:s.mode = 2
   ·have HO2:Hid (ON = shortB 4):=by rw [Hid,HON.out]; simp [m2,hfr]
    have HE:Hid (rover c now A.i s = ({ s with free:=false,began:=now,wait:=patience c A.i s.mode },none)):=by simp [Hid,rover,m2,hfr]
    rw [m2] at m0
    clear m2
    go_wp2_with fail
    refine (says_any F A c now 4 _ on _ H2.out (by omega)).mono ?_
    rintro e w3 ⟨rfl,h3,b3⟩
    have B3:=hide (B2.out.trans b3)
    have V3:=hide (EvAt.rb V2.out b3 (by omega) (by omega))
    have H3:=hide h3
    clear h3 b3
    obtain ⟨⟨x0,x1,x2,x3,x4,x5⟩,q0,q1,q2,q3,q4,q5⟩:=Ev0.all V3.out
    go_wp2
    (try simp only [Exit.inBlock,Exit.then])
    refine bodyPost_ret (results_ev rfl _ _ w.heap.size rfl (EvAt.all V3.out)) rfl ?_
    rw [HE.out,HO2.out]
    exact ⟨rfl,rend H3.out B3.out (fun x hx=>Or.inl hx) (fun y=>by have:=hF _ y; omega) (Nat.le_refl _) H.out _ _ _ _ _ _⟩
   ·have HO2:Hid (ON = shortB 3):=by rw [Hid,HON.out]; simp [m2,m3,hfr]
    have HE:Hid (rover c now A.i s = ({ s with free:=false,began:=now,wait:=patience c A.i s.mode },none)):=by simp [Hid,rover,m3,hfr]
    have m2':((s.mode:Int) == 2) = false:=by simp; omega
    clear m2
    go_wp2_with fail
    refine (says_any F A c now 3 _ on _ H2.out (by omega)).mono ?_
    rintro e w3 ⟨rfl,h3,b3⟩
    have B3:=hide (B2.out.trans b3)
    have V3:=hide (EvAt.rb V2.out b3 (by omega) (by omega))
    have H3:=hide h3
    clear h3 b3
    obtain ⟨⟨x0,x1,x2,x3,x4,x5⟩,q0,q1,q2,q3,q4,q5⟩:=Ev0.all V3.out
    go_wp2
    (try simp only [Exit.inBlock,Exit.then])
    refine bodyPost_ret (results_ev rfl _ _ w.heap.size rfl (EvAt.all V3.out)) rfl ?_
    rw [HE.out,HO2.out]
    exact ⟨rfl,rend H3.out B3.out (fun x hx=>Or.inl hx) (fun y=>by have:=hF _ y; omega) (Nat.le_refl _) H.out _ _ _ _ _ _⟩
end Go.Proofs.YtlbpjcphhocdkaaGreat
namespace Go.Proofs.YtlbpjcphhocdkaaGreat
open Go.Proofs.YtlbpjcphhocdkaaGreat.Mod Go.Proofs.YtlbpjcphhocdkaaGreat.Pst
/-- The document's fields stand for the model's station. -/
structure RRel (s:RS) (t:Stn):Prop where
 mode:s.mode = t.mode
 busy:s.busy = t.busy
 q:s.q = t.queue
 joined:s.joined = t.joined
 due:t.mode ≠ 0 → t.due = s.began + s.wait
 rest:(t.rest:Int) = s.ended + 3
 tries:s.tries = t.tries
 off:s.off = t.off
 free:s.free = t.free
 block:s.block = t.block
 count:s.count = t.count
 got:s.got = t.got
abbrev RDid:=RS × List UInt8 × Option Ev
/-- What it does,against what the model's does. -/
structure RSame (c:Cfg) (d:RDid) (e:Did):Prop where
 rel:RRel d.1 e.1
 on:d.2.1 = txOf c e.2.1
 ev:d.2.2 = e.2.2
def rsendBlk (c:Cfg) (now:Nat) (s:RS):RDid:=({ s with began:=now,wait:=c.reply },txOf c (.blk (blkAt c (s.q.headD noMsg) s.block)),none)
def rdends (c:Cfg) (now i kind:Nat) (s:RS):RDid:=((rends now i kind s).1,(if s.mode = 2 then txOf c (.short 5) else []),(rends now i kind s).2)
def rdanswers (c:Cfg) (now:Nat) (s:RS):RDid:=(ranswers c now s,txOf c (.short (if s.busy then 9 else 7)),none)
def rdlater (c:Cfg) (now i:Nat) (s:RS):RDid:=if s.off + 1 > c.waits then rdends c now i 3 { s with off:=s.off + 1 } else ({ s with off:=s.off + 1,free:=true,began:=now,wait:=patience c i s.mode },[],none)
def rtells (s:RS):Put:=if s.busy then .short 9 else .short (yesN s.count)
def rtakes (c:Cfg) (now i:Nat) (s:RS) (b:Bk):RDid :=
 if (joinedM (s.got ++ [b])).head.length > 8 ∨ (joinedM (s.got ++ [b])).text.length > 200 then ({ s with began:=now,wait:=c.lost },txOf c (.short 6),none)
 else if b.last then ({ s with began:=now,wait:=c.lost,count:=s.count + 1,got:=[] },txOf c (rtells { s with count:=s.count + 1 }),some ⟨1,i,0,joinedM (s.got ++ [b])⟩)
 else ({ s with began:=now,wait:=c.lost,count:=s.count + 1,got:=s.got ++ [b] },txOf c (rtells { s with count:=s.count + 1 }),none)
def rbidding (c:Cfg) (now i:Nat) (s:RS) (h:Ans):Option RDid :=
 if kindOf h = 7 then some (rsendBlk c now { s with mode:=2,block:=0,tries:=1,off:=0,free:=false })
 else if kindOf h = 9 then some (rdlater c now i s)
 else if kindOf h = 3 ∧ i = 1 then some (rdanswers c now s)
 else none
def rsending (c:Cfg) (now i:Nat) (s:RS) (h:Ans):Option RDid :=
 if kindOf h = yesN (s.block + 1) then
  if s.block + 1 = nblk c (s.q.headD noMsg) then some (rdends c now i 2 s)
  else some (rsendBlk c now { s with block:=s.block + 1,tries:=1,off:=0,free:=false })
 else if kindOf h = 7 ∨ kindOf h = 8 ∨ kindOf h = 6 then
  if s.tries > c.tries then some (rdends c now i 3 s) else some (rsendBlk c now { s with tries:=s.tries + 1,free:=false })
 else if kindOf h = 9 then some (rdlater c now i s)
 else none
def rreceiving (c:Cfg) (now i:Nat) (s:RS) (h:Ans):Option RDid :=
 match h with
 | .data hd ps cl la=>some (rtakes c now i s ⟨hd,ps,cl,la⟩)
 | .none n =>
  if n = 1 then some ({ s with began:=now,wait:=c.lost },txOf c (.short 6),none)
  else if n = 4 then some ({ s with began:=now,wait:=c.lost },txOf c (rtells s),none)
  else if n = 3 then some (rdanswers c now s)
  else if n = 5 then some ({ s with mode:=0,got:=[] },[],none)
  else none
def rnamed (c:Cfg) (now i:Nat) (s:RS) (h:Ans):Option RDid :=
 if s.mode = 1 then rbidding c now i s h else if s.mode = 2 then rsending c now i s h else if s.mode = 3 then rreceiving c now i s h else if kindOf h = 3 then some (rdanswers c now s) else none
def rdover (c:Cfg) (now i:Nat) (s:RS):RDid:=((rover c now i s).1,roverOn c s [],(rover c now i s).2)
def rone (c:Cfg) (now i:Nat) (s:RS) (h:Ans):RDid :=
 match rnamed c now i s h with
 | some d=>d
 | none =>
  if s.mode ≠ 0 ∧ now = s.began + s.wait then rdover c now i s
  else if s.mode = 0 ∧ s.q ≠ [] ∧ s.ended + 3 ≤ now then ({ s with mode:=1,tries:=1,off:=0,free:=false,began:=now,wait:=patience c i 1 },txOf c (.short 3),none)
  else (s,[],none)
/-- The fields,all but the three that tell its waits. -/
def toR (t:Stn) (b w:Nat) (e:Int):RS:=⟨t.mode,t.busy,t.queue,t.joined,b,w,e,t.tries,t.off,t.free,t.block,t.count,t.got⟩
theorem RRel.out {s:RS} {t:Stn} (r:RRel s t):∃ b w e,s = toR t b w e ∧ (t.mode ≠ 0 → t.due = b + w) ∧ (t.rest:Int) = e + 3:=by
 obtain ⟨h1,h2,h3,h4,h5,h6,h7,h8,h9,h10,h11,h12⟩:=r
 refine ⟨s.began,s.wait,s.ended,?_,h5,h6⟩
 unfold toR
 rw [← h1,← h2,← h3,← h4,← h7,← h8,← h9,← h10,← h11,← h12]
theorem RRel.of {t:Stn} {b w:Nat} {e:Int} (h1:t.mode ≠ 0 → t.due = b + w) (h2:(t.rest:Int) = e + 3):RRel (toR t b w e) t:=⟨rfl,rfl,rfl,rfl,h1,h2,rfl,rfl,rfl,rfl,rfl,rfl⟩
section
variable {c:Cfg} {now i:Nat} {t:Stn} {h:Ans} {b w:Nat} {e:Int}
theorem same_ends (k:Nat):RSame c (rdends c now i k (toR t b w e)) (ends now i t k):=by
 refine ⟨⟨rfl,rfl,rfl,rfl,fun z=>absurd rfl z,?_,rfl,rfl,rfl,rfl,rfl,rfl⟩,?_,rfl⟩
 ·show ((now + 3:Nat):Int) = (now:Int) + 3; omega
 ·show (if t.mode = 2 then txOf c (.short 5) else []) = txOf c (if t.mode = 2 then .short 5 else .nil)
  split <;> rfl
theorem same_send (h2:(t.rest:Int) = e + 3):RSame c (rsendBlk c now (toR t b w e)) (sendBlk c now t) :=
 ⟨⟨rfl,rfl,rfl,rfl,fun _=>rfl,h2,rfl,rfl,rfl,rfl,rfl,rfl⟩,rfl,rfl⟩
theorem same_answers (h2:(t.rest:Int) = e + 3):RSame c (rdanswers c now (toR t b w e)) (answers c now t):=by
 unfold rdanswers ranswers answers
 show RSame c (if t.busy = true then _ else _,txOf c (.short (if t.busy = true then 9 else 7)),none) _
 by_cases z:t.busy = true
 ·rw [if_pos z,if_pos z,if_pos z]
  exact ⟨⟨rfl,rfl,rfl,rfl,fun z=>absurd rfl z,h2,rfl,rfl,rfl,rfl,rfl,rfl⟩,rfl,rfl⟩
 ·rw [if_neg z,if_neg z,if_neg z]
  exact ⟨⟨rfl,rfl,rfl,rfl,fun _=>rfl,h2,rfl,rfl,rfl,rfl,rfl,rfl⟩,rfl,rfl⟩
theorem same_later (h2:(t.rest:Int) = e + 3):RSame c (rdlater c now i (toR t b w e)) (later c now i t):=by
 unfold rdlater later
 show RSame c (if t.off + 1 > c.waits then _ else _) (if t.off + 1 > c.waits then _ else _)
 by_cases z:t.off + 1 > c.waits
 ·rw [if_pos z,if_pos z]
  exact same_ends (t:={ t with off:=t.off + 1 }) 3
 ·rw [if_neg z,if_neg z]
  exact ⟨⟨rfl,rfl,rfl,rfl,fun _=>rfl,h2,rfl,rfl,rfl,rfl,rfl,rfl⟩,rfl,rfl⟩
theorem same_takes (h2:(t.rest:Int) = e + 3) (x:Bk):RSame c (rtakes c now i (toR t b w e) x) (takes c now i t x):=by
 unfold rtakes takes
 show RSame c (if (joinedM (t.got ++ [x])).head.length > 8 ∨ (joinedM (t.got ++ [x])).text.length > 200 then _ else _) _
 by_cases z:(joinedM (t.got ++ [x])).head.length > 8 ∨ (joinedM (t.got ++ [x])).text.length > 200
 ·rw [if_pos z,if_pos z]
  exact ⟨⟨rfl,rfl,rfl,rfl,fun _=>rfl,h2,rfl,rfl,rfl,rfl,rfl,rfl⟩,rfl,rfl⟩
 ·rw [if_neg z,if_neg z]
  by_cases y:x.last = true
  ·rw [if_pos y,if_pos y]
   exact ⟨⟨rfl,rfl,rfl,rfl,fun _=>rfl,h2,rfl,rfl,rfl,rfl,rfl,rfl⟩,rfl,rfl⟩
  ·rw [if_neg y,if_neg y]
   exact ⟨⟨rfl,rfl,rfl,rfl,fun _=>rfl,h2,rfl,rfl,rfl,rfl,rfl,rfl⟩,rfl,rfl⟩
/-- Two answers that may not be named. -/
def OSame (c:Cfg):Option RDid → Option Did → Prop
 | some d,some e=>RSame c d e
 | none,none=>True
 | _,_=>False
theorem same_bidding (h2:(t.rest:Int) = e + 3):OSame c (rbidding c now i (toR t b w e) h) (bidding c now i t h):=by
 unfold rbidding bidding
 by_cases z:kindOf h = 7
 ·rw [if_pos z,if_pos z]
  exact same_send (t:={ t with mode:=2,block:=0,tries:=1,off:=0,free:=false }) h2
 ·rw [if_neg z,if_neg z]
  by_cases y:kindOf h = 9
  ·rw [if_pos y,if_pos y]; exact same_later h2
  ·rw [if_neg y,if_neg y]
   by_cases x:kindOf h = 3 ∧ i = 1
   ·rw [if_pos x,if_pos x]; exact same_answers h2
   ·rw [if_neg x,if_neg x]; trivial
theorem same_sending (h2:(t.rest:Int) = e + 3):OSame c (rsending c now i (toR t b w e) h) (sending c now i t h):=by
 unfold rsending sending
 show OSame c (if kindOf h = yesN (t.block + 1) then (if t.block + 1 = nblk c (t.queue.headD noMsg) then _ else _) else if kindOf h = 7 ∨ kindOf h = 8 ∨ kindOf h = 6 then (if t.tries > c.tries then _ else _) else _) _
 by_cases z:kindOf h = yesN (t.block + 1)
 ·rw [if_pos z,if_pos z]
  by_cases y:t.block + 1 = nblk c (t.queue.headD noMsg)
  ·rw [if_pos y,if_pos y]; exact same_ends 2
  ·rw [if_neg y,if_neg y]; exact same_send (t:={ t with block:=t.block + 1,tries:=1,off:=0,free:=false }) h2
 ·rw [if_neg z,if_neg z]
  by_cases y:kindOf h = 7 ∨ kindOf h = 8 ∨ kindOf h = 6
  ·rw [if_pos y,if_pos y]
   by_cases x:t.tries > c.tries
   ·rw [if_pos x,if_pos x]; exact same_ends 3
   ·rw [if_neg x,if_neg x]; exact same_send (t:={ t with tries:=t.tries + 1,free:=false }) h2
  ·rw [if_neg y,if_neg y]
   by_cases x:kindOf h = 9
   ·rw [if_pos x,if_pos x]; exact same_later h2
   ·rw [if_neg x,if_neg x]; trivial
theorem same_receiving (h2:(t.rest:Int) = e + 3):OSame c (rreceiving c now i (toR t b w e) h) (receiving c now i t h):=by
 unfold rreceiving receiving
 cases h with
 | data hd ps cl la=>exact same_takes h2 _
 | none n =>
  simp only
  by_cases z:n = 1
  ·rw [if_pos z,if_pos z]
   exact ⟨⟨rfl,rfl,rfl,rfl,fun _=>rfl,h2,rfl,rfl,rfl,rfl,rfl,rfl⟩,rfl,rfl⟩
  ·rw [if_neg z,if_neg z]
   by_cases y:n = 4
   ·rw [if_pos y,if_pos y]
    exact ⟨⟨rfl,rfl,rfl,rfl,fun _=>rfl,h2,rfl,rfl,rfl,rfl,rfl,rfl⟩,rfl,rfl⟩
   ·rw [if_neg y,if_neg y]
    by_cases x:n = 3
    ·rw [if_pos x,if_pos x]; exact same_answers h2
    ·rw [if_neg x,if_neg x]
     by_cases v:n = 5
     ·rw [if_pos v,if_pos v]
      exact ⟨⟨rfl,rfl,rfl,rfl,fun z=>absurd rfl z,h2,rfl,rfl,rfl,rfl,rfl,rfl⟩,rfl,rfl⟩
     ·rw [if_neg v,if_neg v]; trivial
theorem same_named (h2:(t.rest:Int) = e + 3):OSame c (rnamed c now i (toR t b w e) h) (named c now i t h):=by
 unfold rnamed named idle
 show OSame c (if t.mode = 1 then _ else if t.mode = 2 then _ else if t.mode = 3 then _ else _) _
 by_cases z:t.mode = 1
 ·rw [if_pos z,if_pos z]; exact same_bidding h2
 ·rw [if_neg z,if_neg z]
  by_cases y:t.mode = 2
  ·rw [if_pos y,if_pos y]; exact same_sending h2
  ·rw [if_neg y,if_neg y]
   by_cases x:t.mode = 3
   ·rw [if_pos x,if_pos x]; exact same_receiving h2
   ·rw [if_neg x,if_neg x]
    by_cases v:kindOf h = 3
    ·rw [if_pos v,if_pos v]; exact same_answers h2
    ·rw [if_neg v,if_neg v]; trivial
theorem same_over (h2:(t.rest:Int) = e + 3):RSame c (rdover c now i (toR t b w e)) (over c now i t):=by
 have e1:(toR t b w e).mode = t.mode:=rfl
 have e2:(toR t b w e).free = t.free:=rfl
 have e3:(toR t b w e).tries = t.tries:=rfl
 unfold rdover rover roverOn over
 rw [e1,e2,e3]
 by_cases z:t.mode = 3
 ·rw [if_pos z,if_pos z,if_pos z]
  exact ⟨⟨rfl,rfl,rfl,rfl,fun z=>absurd rfl z,h2,rfl,rfl,rfl,rfl,rfl,rfl⟩,rfl,rfl⟩
 ·rw [if_neg z,if_neg z,if_neg z]
  by_cases y:t.free = false ∧ t.tries > c.tries
  ·rw [if_pos y,if_pos y,if_pos y]
   exact same_ends (c:=c) (now:=now) (i:=i) (t:=t) (b:=b) (w:=w) (e:=e) 3
  ·rw [if_neg y,if_neg y,if_neg y]
   refine ⟨⟨rfl,rfl,rfl,rfl,fun _=>rfl,h2,rfl,rfl,rfl,rfl,rfl,rfl⟩,?_,rfl⟩
   show (if t.mode = 2 then shortB 4 else shortB 3) = txOf c (.short (if t.mode = 2 then 4 else 3))
   split <;> rfl
/-- All of a station's tick. -/
theorem same_one {s:RS} (r:RRel s t):RSame c (rone c now i s h) (one c now i t h):=by
 obtain ⟨b,w,e,rfl,hd,h2⟩:=r.out
 have hn:=same_named (c:=c) (now:=now) (i:=i) (h:=h) (b:=b) (w:=w) h2
 unfold rone one
 cases e1:rnamed c now i (toR t b w e) h with
 | some d =>
  rw [e1] at hn
  cases e2:named c now i t h with
  | some d'=>rw [e2] at hn; exact hn
  | none=>rw [e2] at hn; exact hn.elim
 | none =>
  rw [e1] at hn
  cases e2:named c now i t h with
  | some d'=>rw [e2] at hn; exact hn.elim
  | none =>
   show RSame c (if t.mode ≠ 0 ∧ now = b + w then _ else if t.mode = 0 ∧ t.queue ≠ [] ∧ e + 3 ≤ now then _ else _) (if t.mode ≠ 0 ∧ now = t.due then _ else _)
   by_cases z:t.mode = 0
   ·rw [if_neg (show ¬ (t.mode ≠ 0 ∧ now = b + w) from fun k=>k.1 z),if_neg (show ¬ (t.mode ≠ 0 ∧ now = t.due) from fun k=>k.1 z)]
    by_cases y:t.mode = 0 ∧ t.queue ≠ [] ∧ t.rest ≤ now
    ·rw [if_pos (show t.mode = 0 ∧ t.queue ≠ [] ∧ e + 3 ≤ now from ⟨y.1,y.2.1,by have:=y.2.2; omega⟩),if_pos y]
     exact ⟨⟨rfl,rfl,rfl,rfl,fun _=>rfl,h2,rfl,rfl,rfl,rfl,rfl,rfl⟩,rfl,rfl⟩
    ·rw [if_neg (show ¬ (t.mode = 0 ∧ t.queue ≠ [] ∧ e + 3 ≤ now) from fun k=>y ⟨k.1,k.2.1,by have:=k.2.2; omega⟩),if_neg y]
     exact ⟨.of hd h2,rfl,rfl⟩
   ·have hd':=hd z
    by_cases y:now = t.due
    ·rw [if_pos (show t.mode ≠ 0 ∧ now = b + w from ⟨z,by omega⟩),if_pos (show t.mode ≠ 0 ∧ now = t.due from ⟨z,y⟩)]
     exact same_over h2
    ·rw [if_neg (show ¬ (t.mode ≠ 0 ∧ now = b + w) from fun k=>y (by have:=k.2; omega)),if_neg (show ¬ (t.mode ≠ 0 ∧ now = t.due) from fun k=>y k.2),if_neg (show ¬ (t.mode = 0 ∧ t.queue ≠ [] ∧ e + 3 ≤ now) from fun k=>z k.1),if_neg (show ¬ (t.mode = 0 ∧ t.queue ≠ [] ∧ t.rest ≤ now) from fun k=>z k.1)]
     exact ⟨.of hd h2,rfl,rfl⟩
end
end Go.Proofs.YtlbpjcphhocdkaaGreat
