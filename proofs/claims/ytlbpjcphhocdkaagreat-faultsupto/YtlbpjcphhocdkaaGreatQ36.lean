/- The document's line: a message that does not join. The document's line, said by the model's line. The document's line: a tick. -/
import Derived.Test.YtlbpjcphhocdkaaGreatQ35
import Derived.Test.YtlbpjcphhocdkaaGreatQ14
import Derived.Test.YtlbpjcphhocdkaaGreatQ20
import Derived.Test.YtlbpjcphhocdkaaGreatQ11
import Derived.Test.YtlbpjcphhocdkaaGreatQ34
set_option maxRecDepth 1000000
set_option maxHeartbeats 16000000
namespace Go.Proofs.YtlbpjcphhocdkaaGreat
open Go.RowKit Go.Proofs.YtlbpjcphhocdkaaGreat.Mod Go.Proofs.YtlbpjcphhocdkaaGreat.Pst
theorem rsubmit_station (yb:Nat) (st:Int) (m:Msg) (w:World) (hs:¬ (st = 0 ∨ st = 1)) :
  Calls Tryz.prog 33 #[.pointer (some ⟨yb,0,none⟩),.int .i64 st,msgV m] w fun e w'=>e = .returned (.tuple #[.int .i64 0,.int .i64 7]) ∧ Below w.heap.size w w':=by
 unfold msgV
 rcases (show st < 0 ∨ (¬ st < 0 ∧ 1 < st) by omega) with z | ⟨z,y⟩
 ·clear hs
  go_enter Tryz.func33,Tryz.ntmps33
  go_wp2
  go_ret2
  exact ⟨rfl,(Below.refl _ _).alloc (Nat.le_refl _) _⟩
 ·clear hs
  go_enter Tryz.func33,Tryz.ntmps33
  go_wp2
  go_ret2
  exact ⟨rfl,(Below.refl _ _).alloc (Nat.le_refl _) _⟩
theorem rsub_head1 (yb i:Nat) (m:Msg) (w:World) (hi:i < 2) (hh:m.head.length ≤ 140737488352000) (ht:m.text.length ≤ 140737488352000) (h1:8 < m.head.length) :
  Calls Tryz.prog 33 #[.pointer (some ⟨yb,0,none⟩),.int .i64 i,msgV m] w fun e w'=>e = .returned (.tuple #[.int .i64 0,.int .i64 2]) ∧ Below w.heap.size w w':=by
 have g1:¬ (i:Int) < 0:=by omega
 have g2:¬ (1:Int) < (i:Int):=by omega
 obtain ⟨hd,HHD,ehd⟩:∃ x:ByteArray,Hid (x.data.toList = m.head) ∧ x = ⟨m.head.toArray⟩:=⟨_,by simp [Hid],rfl⟩
 obtain ⟨tx,HTX,etx⟩:∃ x:ByteArray,Hid (x.data.toList = m.text) ∧ x = ⟨m.text.toArray⟩:=⟨_,by simp [Hid],rfl⟩
 have hs1:hd.size = m.head.length:=by rw [ehd]; rfl
 have hs2:tx.size = m.text.length:=by rw [etx]; rfl
 have hk1:hd.size ≤ 140737488352000:=by omega
 have hk2:tx.size ≤ 140737488352000:=by omega
 have q1:(8:Int) < (hd.size:Int):=by omega
 clear h1
 have HEH:=hide ehd
 have HET:=hide etx
 clear ehd etx hs1 hs2 hh ht
 unfold msgV
 rw [← HEH.out,← HET.out]
 go_enter Tryz.func33,Tryz.ntmps33
 go_wp2_with fail
 refine wp_atS (fun W=>Below w.heap.size w W ∧ M3S W w.heap.size hd tx m.clear ∧ w.heap.size < W.heap.size) ⟨(Below.refl _ _).alloc (Nat.le_refl _) _,heap_alloc_new w _,by simp⟩ ?_
 rintro W ⟨hb,M0,hz⟩
 obtain ⟨m0,m1,m2⟩:=M3S.cells M0
 have HB:=hide hb
 clear hb M0
 refine (plain_any hd W hk1).mono ?_
 rintro e w1 ⟨rfl,n1,rfl⟩
 generalize (!Blk.hasCtl hd.data.toList) = pb1 at *
 go_wp2_with fail
 refine (plain_any tx _ hk2).mono ?_
 rintro e w2 ⟨rfl,n2,rfl⟩
 generalize (!Blk.hasCtl tx.data.toList) = pb2 at *
 go_wp2
 go_ret2
 exact ⟨rfl,below_drewN HB.out (n1 + n2)⟩
theorem rsub_head2 (yb i:Nat) (m:Msg) (w:World) (hi:i < 2) (hh:m.head.length ≤ 140737488352000) (ht:m.text.length ≤ 140737488352000) (h1:¬ 8 < m.head.length) (h2:Blk.hasCtl m.head = true) :
  Calls Tryz.prog 33 #[.pointer (some ⟨yb,0,none⟩),.int .i64 i,msgV m] w fun e w'=>e = .returned (.tuple #[.int .i64 0,.int .i64 2]) ∧ Below w.heap.size w w':=by
 have g1:¬ (i:Int) < 0:=by omega
 have g2:¬ (1:Int) < (i:Int):=by omega
 obtain ⟨hd,HHD,ehd⟩:∃ x:ByteArray,Hid (x.data.toList = m.head) ∧ x = ⟨m.head.toArray⟩:=⟨_,by simp [Hid],rfl⟩
 obtain ⟨tx,HTX,etx⟩:∃ x:ByteArray,Hid (x.data.toList = m.text) ∧ x = ⟨m.text.toArray⟩:=⟨_,by simp [Hid],rfl⟩
 have hs1:hd.size = m.head.length:=by rw [ehd]; rfl
 have hs2:tx.size = m.text.length:=by rw [etx]; rfl
 have hk1:hd.size ≤ 140737488352000:=by omega
 have hk2:tx.size ≤ 140737488352000:=by omega
 have q1:¬ (8:Int) < (hd.size:Int):=by omega
 have HP1:Hid ((!Blk.hasCtl hd.data.toList) = false):=by rw [Hid,HHD.out,h2]; rfl
 clear h1 h2
 have HEH:=hide ehd
 have HET:=hide etx
 clear ehd etx hs1 hs2 hh ht
 unfold msgV
 rw [← HEH.out,← HET.out]
 go_enter Tryz.func33,Tryz.ntmps33
 go_wp2_with fail
 refine wp_atS (fun W=>Below w.heap.size w W ∧ M3S W w.heap.size hd tx m.clear ∧ w.heap.size < W.heap.size) ⟨(Below.refl _ _).alloc (Nat.le_refl _) _,heap_alloc_new w _,by simp⟩ ?_
 rintro W ⟨hb,M0,hz⟩
 obtain ⟨m0,m1,m2⟩:=M3S.cells M0
 have HB:=hide hb
 clear hb M0
 refine (plain_any hd W hk1).mono ?_
 rintro e w1 ⟨rfl,n1,rfl⟩
 rw [HP1.out]
 go_wp2_with fail
 refine (plain_any tx _ hk2).mono ?_
 rintro e w2 ⟨rfl,n2,rfl⟩
 generalize (!Blk.hasCtl tx.data.toList) = pb2 at *
 go_wp2
 go_ret2
 exact ⟨rfl,below_drewN HB.out (n1 + n2)⟩
theorem rsub_text1 (yb i:Nat) (m:Msg) (w:World) (hi:i < 2) (hh:m.head.length ≤ 140737488352000) (ht:m.text.length ≤ 140737488352000) (h1:¬ 8 < m.head.length) (h2:Blk.hasCtl m.head = false) (h3:200 < m.text.length) :
  Calls Tryz.prog 33 #[.pointer (some ⟨yb,0,none⟩),.int .i64 i,msgV m] w fun e w'=>e = .returned (.tuple #[.int .i64 0,.int .i64 4]) ∧ Below w.heap.size w w':=by
 have g1:¬ (i:Int) < 0:=by omega
 have g2:¬ (1:Int) < (i:Int):=by omega
 obtain ⟨hd,HHD,ehd⟩:∃ x:ByteArray,Hid (x.data.toList = m.head) ∧ x = ⟨m.head.toArray⟩:=⟨_,by simp [Hid],rfl⟩
 obtain ⟨tx,HTX,etx⟩:∃ x:ByteArray,Hid (x.data.toList = m.text) ∧ x = ⟨m.text.toArray⟩:=⟨_,by simp [Hid],rfl⟩
 have hs1:hd.size = m.head.length:=by rw [ehd]; rfl
 have hs2:tx.size = m.text.length:=by rw [etx]; rfl
 have hk1:hd.size ≤ 140737488352000:=by omega
 have hk2:tx.size ≤ 140737488352000:=by omega
 have q1:¬ (8:Int) < (hd.size:Int):=by omega
 have HP1:Hid ((!Blk.hasCtl hd.data.toList) = true):=by rw [Hid,HHD.out,h2]; rfl
 clear h1 h2
 have q2:(200:Int) < (tx.size:Int):=by omega
 clear h3
 have HEH:=hide ehd
 have HET:=hide etx
 clear ehd etx hs1 hs2 hh ht
 unfold msgV
 rw [← HEH.out,← HET.out]
 go_enter Tryz.func33,Tryz.ntmps33
 go_wp2_with fail
 refine wp_atS (fun W=>Below w.heap.size w W ∧ M3S W w.heap.size hd tx m.clear ∧ w.heap.size < W.heap.size) ⟨(Below.refl _ _).alloc (Nat.le_refl _) _,heap_alloc_new w _,by simp⟩ ?_
 rintro W ⟨hb,M0,hz⟩
 obtain ⟨m0,m1,m2⟩:=M3S.cells M0
 have HB:=hide hb
 clear hb M0
 refine (plain_any hd W hk1).mono ?_
 rintro e w1 ⟨rfl,n1,rfl⟩
 rw [HP1.out]
 go_wp2_with fail
 refine (plain_any tx _ hk2).mono ?_
 rintro e w2 ⟨rfl,n2,rfl⟩
 generalize (!Blk.hasCtl tx.data.toList) = pb2 at *
 go_wp2
 go_ret2
 exact ⟨rfl,below_drewN HB.out (n1 + n2)⟩
theorem rsub_text2 (yb i:Nat) (m:Msg) (w:World) (hi:i < 2) (hh:m.head.length ≤ 140737488352000) (ht:m.text.length ≤ 140737488352000) (h1:¬ 8 < m.head.length) (h2:Blk.hasCtl m.head = false) (h3:¬ 200 < m.text.length) (h4:m.clear = false) (h5:Blk.hasCtl m.text = true) :
  Calls Tryz.prog 33 #[.pointer (some ⟨yb,0,none⟩),.int .i64 i,msgV m] w fun e w'=>e = .returned (.tuple #[.int .i64 0,.int .i64 4]) ∧ Below w.heap.size w w':=by
 have g1:¬ (i:Int) < 0:=by omega
 have g2:¬ (1:Int) < (i:Int):=by omega
 obtain ⟨hd,HHD,ehd⟩:∃ x:ByteArray,Hid (x.data.toList = m.head) ∧ x = ⟨m.head.toArray⟩:=⟨_,by simp [Hid],rfl⟩
 obtain ⟨tx,HTX,etx⟩:∃ x:ByteArray,Hid (x.data.toList = m.text) ∧ x = ⟨m.text.toArray⟩:=⟨_,by simp [Hid],rfl⟩
 have hs1:hd.size = m.head.length:=by rw [ehd]; rfl
 have hs2:tx.size = m.text.length:=by rw [etx]; rfl
 have hk1:hd.size ≤ 140737488352000:=by omega
 have hk2:tx.size ≤ 140737488352000:=by omega
 have q1:¬ (8:Int) < (hd.size:Int):=by omega
 have HP1:Hid ((!Blk.hasCtl hd.data.toList) = true):=by rw [Hid,HHD.out,h2]; rfl
 clear h1 h2
 have q2:¬ (200:Int) < (tx.size:Int):=by omega
 have HP2:Hid ((!Blk.hasCtl tx.data.toList) = false):=by rw [Hid,HTX.out,h5]; rfl
 have HCL:=hide h4
 clear h3 h4 h5
 have HEH:=hide ehd
 have HET:=hide etx
 clear ehd etx hs1 hs2 hh ht
 unfold msgV
 rw [← HEH.out,← HET.out]
 go_enter Tryz.func33,Tryz.ntmps33
 go_wp2_with fail
 refine wp_atS (fun W=>Below w.heap.size w W ∧ M3S W w.heap.size hd tx m.clear ∧ w.heap.size < W.heap.size) ⟨(Below.refl _ _).alloc (Nat.le_refl _) _,heap_alloc_new w _,by simp⟩ ?_
 rintro W ⟨hb,M0,hz⟩
 obtain ⟨m0,m1,m2⟩:=M3S.cells M0
 have HB:=hide hb
 clear hb M0
 refine (plain_any hd W hk1).mono ?_
 rintro e w1 ⟨rfl,n1,rfl⟩
 rw [HP1.out]
 go_wp2_with fail
 refine (plain_any tx _ hk2).mono ?_
 rintro e w2 ⟨rfl,n2,rfl⟩
 rw [HP2.out]
 rw [HCL.out] at m2
 go_wp2
 go_ret2
 exact ⟨rfl,below_drewN HB.out (n1 + n2)⟩
theorem rsub_full1 (yb i:Nat) (m:Msg) (w:World) (hi:i < 2) (hh:m.head.length ≤ 140737488352000) (ht:m.text.length ≤ 140737488352000) (h1:¬ 8 < m.head.length) (h2:Blk.hasCtl m.head = false) (h3:¬ 200 < m.text.length) (h4:m.clear = true) (F:Nat → Prop) (A:RAd) (c:Cfg) (now:Nat) (s:RS) (on:List UInt8) (hA:RAt w F A c now s on) (hy:yb = A.yb) (hia:i = A.i) (hq:c.queue ≤ s.q.length) :
  Calls Tryz.prog 33 #[.pointer (some ⟨yb,0,none⟩),.int .i64 i,msgV m] w fun e w'=>e = .returned (.tuple #[.int .i64 0,.int .i64 8]) ∧ Below w.heap.size w w':=by
 have g1:¬ (i:Int) < 0:=by omega
 have g2:¬ (1:Int) < (i:Int):=by omega
 obtain ⟨hd,HHD,ehd⟩:∃ x:ByteArray,Hid (x.data.toList = m.head) ∧ x = ⟨m.head.toArray⟩:=⟨_,by simp [Hid],rfl⟩
 obtain ⟨tx,HTX,etx⟩:∃ x:ByteArray,Hid (x.data.toList = m.text) ∧ x = ⟨m.text.toArray⟩:=⟨_,by simp [Hid],rfl⟩
 have hs1:hd.size = m.head.length:=by rw [ehd]; rfl
 have hs2:tx.size = m.text.length:=by rw [etx]; rfl
 have hk1:hd.size ≤ 140737488352000:=by omega
 have hk2:tx.size ≤ 140737488352000:=by omega
 have HCL:=hide h4
 clear h4
 have q1:¬ (8:Int) < (hd.size:Int):=by omega
 have HP1:Hid ((!Blk.hasCtl hd.data.toList) = true):=by rw [Hid,HHD.out,h2]; rfl
 clear h1 h2
 have q2:¬ (200:Int) < (tx.size:Int):=by omega
 subst hy hia
 have lsb:=hA.lsb
 have lyb:=hA.lyb
 have lsl:=hA.lsl
 have hr':decide (c.queue ≤ s.q.length) = true:=by simp; omega
 have HA:=hide hA
 obtain ⟨v,c2,hv⟩:=hA.que
 obtain ⟨a,cap,rfl⟩:=hv.form
 clear h3 hA hv hq
 have HEH:=hide ehd
 have HET:=hide etx
 clear ehd etx hs1 hs2 hh ht
 unfold msgV
 rw [← HEH.out,← HET.out]
 go_enter Tryz.func33,Tryz.ntmps33
 go_wp2_with fail
 refine wp_atS (fun W=>Below w.heap.size w W ∧ M3S W w.heap.size hd tx m.clear ∧ w.heap.size < W.heap.size) ⟨(Below.refl _ _).alloc (Nat.le_refl _) _,heap_alloc_new w _,by simp⟩ ?_
 rintro W ⟨hb,M0,hz⟩
 obtain ⟨m0,m1,m2⟩:=M3S.cells M0
 have HB:=hide hb
 clear hb M0
 refine (plain_any hd W hk1).mono ?_
 rintro e w1 ⟨rfl,n1,rfl⟩
 rw [HP1.out]
 go_wp2_with fail
 refine (plain_any tx _ hk2).mono ?_
 rintro e w2 ⟨rfl,n2,rfl⟩
 generalize (!Blk.hasCtl tx.data.toList) = pb2 at *
 rw [HCL.out] at m2
 have d1:=(HB.out.cell (p:=⟨A.yb,11,none⟩) lyb).trans HA.out.lst
 have d2:=(HB.out.cell (p:=⟨A.sl,A.i,none⟩) lsl).trans HA.out.ptr
 have d3:=(HB.out.cell (p:=⟨A.sb,2,none⟩) lsb).trans c2
 have d4:=(HB.out.cell (p:=⟨A.yb,3,none⟩) lyb).trans HA.out.cfg.2.2.2.1
 go_wp2_with fail
 go_quiet (fail)
 refine exit_at (fun V=>Below w.heap.size w V) (below_drewN (below_drewN HB.out (n1 + n2)) nq) ?_
 clear d1 d2 d3 d4 HB m0 m1 m2
 rintro W1 hb
 have HB:=hide hb
 clear hb
 go_wp2
 go_ret2
 exact ⟨rfl,HB.out⟩
theorem rsub_full2 (yb i:Nat) (m:Msg) (w:World) (hi:i < 2) (hh:m.head.length ≤ 140737488352000) (ht:m.text.length ≤ 140737488352000) (h1:¬ 8 < m.head.length) (h2:Blk.hasCtl m.head = false) (h3:¬ 200 < m.text.length) (h4:m.clear = false) (h5:Blk.hasCtl m.text = false) (F:Nat → Prop) (A:RAd) (c:Cfg) (now:Nat) (s:RS) (on:List UInt8) (hA:RAt w F A c now s on) (hy:yb = A.yb) (hia:i = A.i) (hq:c.queue ≤ s.q.length) :
  Calls Tryz.prog 33 #[.pointer (some ⟨yb,0,none⟩),.int .i64 i,msgV m] w fun e w'=>e = .returned (.tuple #[.int .i64 0,.int .i64 8]) ∧ Below w.heap.size w w':=by
 have g1:¬ (i:Int) < 0:=by omega
 have g2:¬ (1:Int) < (i:Int):=by omega
 obtain ⟨hd,HHD,ehd⟩:∃ x:ByteArray,Hid (x.data.toList = m.head) ∧ x = ⟨m.head.toArray⟩:=⟨_,by simp [Hid],rfl⟩
 obtain ⟨tx,HTX,etx⟩:∃ x:ByteArray,Hid (x.data.toList = m.text) ∧ x = ⟨m.text.toArray⟩:=⟨_,by simp [Hid],rfl⟩
 have hs1:hd.size = m.head.length:=by rw [ehd]; rfl
 have hs2:tx.size = m.text.length:=by rw [etx]; rfl
 have hk1:hd.size ≤ 140737488352000:=by omega
 have hk2:tx.size ≤ 140737488352000:=by omega
 have HCL:=hide h4
 have HP2:Hid ((!Blk.hasCtl tx.data.toList) = true):=by rw [Hid,HTX.out,h5]; rfl
 clear h4 h5
 have q1:¬ (8:Int) < (hd.size:Int):=by omega
 have HP1:Hid ((!Blk.hasCtl hd.data.toList) = true):=by rw [Hid,HHD.out,h2]; rfl
 clear h1 h2
 have q2:¬ (200:Int) < (tx.size:Int):=by omega
 subst hy hia
 have lsb:=hA.lsb
 have lyb:=hA.lyb
 have lsl:=hA.lsl
 have hr':decide (c.queue ≤ s.q.length) = true:=by simp; omega
 have HA:=hide hA
 obtain ⟨v,c2,hv⟩:=hA.que
 obtain ⟨a,cap,rfl⟩:=hv.form
 clear h3 hA hv hq
 have HEH:=hide ehd
 have HET:=hide etx
 clear ehd etx hs1 hs2 hh ht
 unfold msgV
 rw [← HEH.out,← HET.out]
 go_enter Tryz.func33,Tryz.ntmps33
 go_wp2_with fail
 refine wp_atS (fun W=>Below w.heap.size w W ∧ M3S W w.heap.size hd tx m.clear ∧ w.heap.size < W.heap.size) ⟨(Below.refl _ _).alloc (Nat.le_refl _) _,heap_alloc_new w _,by simp⟩ ?_
 rintro W ⟨hb,M0,hz⟩
 obtain ⟨m0,m1,m2⟩:=M3S.cells M0
 have HB:=hide hb
 clear hb M0
 refine (plain_any hd W hk1).mono ?_
 rintro e w1 ⟨rfl,n1,rfl⟩
 rw [HP1.out]
 go_wp2_with fail
 refine (plain_any tx _ hk2).mono ?_
 rintro e w2 ⟨rfl,n2,rfl⟩
 rw [HP2.out]
 rw [HCL.out] at m2
 have d1:=(HB.out.cell (p:=⟨A.yb,11,none⟩) lyb).trans HA.out.lst
 have d2:=(HB.out.cell (p:=⟨A.sl,A.i,none⟩) lsl).trans HA.out.ptr
 have d3:=(HB.out.cell (p:=⟨A.sb,2,none⟩) lsb).trans c2
 have d4:=(HB.out.cell (p:=⟨A.yb,3,none⟩) lyb).trans HA.out.cfg.2.2.2.1
 go_wp2_with fail
 go_quiet (fail)
 refine exit_at (fun V=>Below w.heap.size w V) (below_drewN (below_drewN HB.out (n1 + n2)) nq) ?_
 clear d1 d2 d3 d4 HB m0 m1 m2
 rintro W1 hb
 have HB:=hide hb
 clear hb
 go_wp2
 go_ret2
 exact ⟨rfl,HB.out⟩
/-- The block yb and those of F hold the document's line x. -/
def DocAt (w:World) (F:Nat → Prop) (yb:Nat) (x:Ln):Prop:=∃ r0 r1,RLn w F yb x.c x.now r0 r1 x.on0 x.on1 ∧ RLR x r0 r1 ∧ ∀ j,w.frozen? ⟨yb,j,none⟩ = false
section
variable {w w':World} {F G:Nat → Prop} {yb:Nat} {x:Ln}
theorem DocAt.own (h:DocAt w F yb x):F yb ∧ yb < w.heap.size:=by
 obtain ⟨r0,r1,h,_⟩:=h
 obtain ⟨sl,ob,b0,b1,F0,F1,h0,h1,n,a1,a2,a3,a4,a5,f1,f2,f3,f4,f5⟩:=h.at'
 exact ⟨f1,h0.lyb⟩
theorem RLn.mono {c:Cfg} {now:Nat} {r0 r1:RS} {on0 on1:List UInt8} (h:RLn w F yb c now r0 r1 on0 on1) (k:∀ g,F g → G g):RLn w G yb c now r0 r1 on0 on1:=by
 obtain ⟨sl,ob,b0,b1,F0,F1,h0,h1,n,a1,a2,a3,a4,a5,f1,f2,f3,f4,f5⟩:=h.at'
 exact ⟨sl,ob,b0,b1,F0,F1,h0,h1,n,a1,a2,a3,fun g hg=>⟨k g (a4 g hg).1,(a4 g hg).2⟩,fun g hg=>⟨k g (a5 g hg).1,(a5 g hg).2⟩,k _ f1,k _ f2,k _ f3,k _ f4,k _ f5⟩
theorem DocAt.mono (h:DocAt w F yb x) (k:∀ g,F g → G g):DocAt w G yb x:=by
 obtain ⟨r0,r1,h,r⟩:=h
 exact ⟨r0,r1,h.mono k,r⟩
theorem DocAt.keep (h:DocAt w F yb x) (hs:w.heap.size ≤ w'.heap.size) (hk:∀ g,F g → g < w.heap.size → w'.heap[g]? = w.heap[g]?):DocAt w' F yb x:=by
 have ho:=h.own
 obtain ⟨r0,r1,h,r,z⟩:=h
 exact ⟨r0,r1,h.keep hs hk,r,fun j=>(World.frozen?_of_block (hk _ ho.1 ho.2)).trans (z j)⟩
theorem DocAt.below (h:DocAt w F yb x) (k:Below w.heap.size w w'):DocAt w' F yb x:=h.keep k.size fun g _ hg=>k.block g hg
end
/-- Submit,of one station: the other is left alone. -/
theorem RLn.sub0 {w:World} {F:Nat → Prop} {yb:Nat} {c:Cfg} {now:Nat} {r0 r1:RS} {on0 on1:List UInt8} (h:RLn w F yb c now r0 r1 on0 on1):∃ (sl ob b0:Nat) (F0:Nat → Prop),RAt w F0 ⟨yb,sl,ob,b0,0⟩ c now r0 on0 ∧ (∀ g,F0 g → g < w.heap.size) ∧
  ∀ (w':World) (r0':RS),RAt w' (Plus F0 w) ⟨yb,sl,ob,b0,0⟩ c now r0' on0 → Fr (fun g=>g = b0 ∨ F0 g) w w' → RLn w' (Plus F w) yb c now r0' r1 on0 on1 ∧ Fr F w w':=by
 obtain ⟨sl,ob,b0,b1,F0,F1,h0,h1,n,a1,a2,a3,a4,a5,f1,f2,f3,f4,f5⟩:=h.at'
 refine ⟨sl,ob,b0,F0,h0,fun g hg=>(a4 g hg).2,?_⟩
 intro w' r0' k B
 have hb1:b1 < w.heap.size:=h1.lsb
 have k1:RAt w' F1 ⟨yb,sl,ob,b1,1⟩ c now r1 on1:=h1.keep (by
  rintro g (rfl | rfl | rfl | rfl | hg) hl
  ·exact B.block _ hl (fun z=>z.elim h0.ok.h3 h0.ok.f1)
  ·exact B.block _ hl (fun z=>z.elim h0.ok.h5 h0.ok.f2)
  ·exact B.block _ hl (fun z=>z.elim h0.ok.h6 h0.ok.f3)
  ·exact B.block _ hl (fun z=>z.elim (Ne.symm n) a1)
  ·exact B.block _ hl (fun z=>z.elim (fun e=>a2 (e ▸ hg)) (fun y=>a3 g y hg)))
 refine ⟨⟨sl,ob,b0,b1,_,F1,k.bound,k1,n,?_,a2,?_,?_,?_,Or.inl f1,Or.inl f2,Or.inl f3,Or.inl f4,Or.inl f5⟩,?_⟩
 ·rintro ⟨z | z,_⟩
  ·exact a1 z
  ·omega
 ·rintro g ⟨z | z,_⟩
  ·exact a3 g z
  ·exact fun y=>by have:=(a5 g y).2; omega
 ·rintro g ⟨z | z,zl⟩
  ·exact ⟨Or.inl (a4 g z).1,zl⟩
  ·exact ⟨Or.inr z,zl⟩
 ·exact fun g y=>⟨Or.inl (a5 g y).1,Nat.lt_of_lt_of_le (a5 g y).2 B.size⟩
 ·exact B.mono (fun g z=>z.elim (fun e=>by rw [e]; exact f4) (fun y=>(a4 g y).1))
theorem RLn.sub1 {w:World} {F:Nat → Prop} {yb:Nat} {c:Cfg} {now:Nat} {r0 r1:RS} {on0 on1:List UInt8} (h:RLn w F yb c now r0 r1 on0 on1):∃ (sl ob b1:Nat) (F1:Nat → Prop),RAt w F1 ⟨yb,sl,ob,b1,1⟩ c now r1 on1 ∧ (∀ g,F1 g → g < w.heap.size) ∧
  ∀ (w':World) (r1':RS),RAt w' (Plus F1 w) ⟨yb,sl,ob,b1,1⟩ c now r1' on1 → Fr (fun g=>g = b1 ∨ F1 g) w w' → RLn w' (Plus F w) yb c now r0 r1' on0 on1 ∧ Fr F w w':=by
 obtain ⟨sl,ob,b0,b1,F0,F1,h0,h1,n,a1,a2,a3,a4,a5,f1,f2,f3,f4,f5⟩:=h.at'
 refine ⟨sl,ob,b1,F1,h1,fun g hg=>(a5 g hg).2,?_⟩
 intro w' r1' k B
 have hb0:b0 < w.heap.size:=h0.lsb
 have k0:RAt w' F0 ⟨yb,sl,ob,b0,0⟩ c now r0 on0:=h0.keep (by
  rintro g (rfl | rfl | rfl | rfl | hg) hl
  ·exact B.block _ hl (fun z=>z.elim h1.ok.h3 h1.ok.f1)
  ·exact B.block _ hl (fun z=>z.elim h1.ok.h5 h1.ok.f2)
  ·exact B.block _ hl (fun z=>z.elim h1.ok.h6 h1.ok.f3)
  ·exact B.block _ hl (fun z=>z.elim n a2)
  ·exact B.block _ hl (fun z=>z.elim (fun e=>a1 (e ▸ hg)) (fun y=>a3 g hg y)))
 refine ⟨⟨sl,ob,b0,b1,F0,_,k0,k.bound,n,a1,?_,?_,?_,?_,Or.inl f1,Or.inl f2,Or.inl f3,Or.inl f4,Or.inl f5⟩,?_⟩
 ·rintro ⟨z | z,_⟩
  ·exact a2 z
  ·omega
 ·rintro g y ⟨z | z,_⟩
  ·exact a3 g y z
  ·have:=(a4 g y).2; omega
 ·exact fun g y=>⟨Or.inl (a4 g y).1,Nat.lt_of_lt_of_le (a4 g y).2 B.size⟩
 ·rintro g ⟨z | z,zl⟩
  ·exact ⟨Or.inl (a5 g z).1,zl⟩
  ·exact ⟨Or.inr z,zl⟩
 ·exact B.mono (fun g z=>z.elim (fun e=>by rw [e]; exact f5) (fun y=>(a5 g y).1))
theorem rrel_sub {s:RS} {t:Stn} (m:Msg) (h:RRel s t):RRel { s with q:=s.q ++ [m],joined:=s.joined + 1 } (subS t m) :=
 ⟨h.mode,h.busy,by simp [subS,h.q],by simp [subS,h.joined],h.due,h.rest,h.tries,h.off,h.free,h.block,h.count,h.got⟩
theorem headOk_false {l:List UInt8} (h:Blk.headOk l = false):8 < l.length ∨ (¬ 8 < l.length ∧ Blk.hasCtl l = true):=by
 unfold Blk.headOk at h
 by_cases z:8 < l.length
 ·exact Or.inl z
 ·right
  refine ⟨z,?_⟩
  cases hc:Blk.hasCtl l
  ·rw [hc] at h; simp at h; omega
  ·rfl
theorem headOk_true {l:List UInt8} (h:Blk.headOk l = true):¬ 8 < l.length ∧ Blk.hasCtl l = false:=by
 unfold Blk.headOk at h
 simp only [Bool.and_eq_true,decide_eq_true_eq,Bool.not_eq_true'] at h
 exact ⟨by omega,h.2⟩
theorem textOk_false {m:Msg} (h:textOk m = false):200 < m.text.length ∨ (¬ 200 < m.text.length ∧ m.clear = false ∧ Blk.hasCtl m.text = true):=by
 unfold textOk at h
 by_cases z:200 < m.text.length
 ·exact Or.inl z
 ·right
  refine ⟨z,?_⟩
  rw [show decide (m.text.length ≤ 200) = true by simp; omega] at h
  cases hc:Blk.hasCtl m.text <;> cases hl:m.clear <;> simp_all
theorem textOk_true {m:Msg} (h:textOk m = true):¬ 200 < m.text.length ∧ (m.clear = true ∨ (m.clear = false ∧ Blk.hasCtl m.text = false)):=by
 unfold textOk at h
 simp only [Bool.and_eq_true,decide_eq_true_eq,Bool.or_eq_true,Bool.not_eq_true'] at h
 refine ⟨by omega,?_⟩
 cases hl:m.clear
 ·right
  rw [hl] at h
  rcases h.2 with z | z
  ·cases z
  ·exact ⟨rfl,z⟩
 ·exact Or.inl rfl
theorem rsubmit_line (F:Nat → Prop) (yb:Nat) (x:Ln) (st:Int) (m:Msg) (w:World) (h:DocAt w F yb x) (hg:LGood x) (j0:x.s0.joined ≤ 100000000000000) (j1:x.s1.joined ≤ 100000000000000) (hh:m.head.length ≤ 140737488352000) (ht:m.text.length ≤ 140737488352000) :
  Calls Tryz.prog 33 #[.pointer (some ⟨yb,0,none⟩),.int .i64 st,msgV m] w fun e w'=>e = .returned (.tuple #[.int .i64 (submitN x st m),.int .i64 (submitE x st m)]) ∧ DocAt w' (Plus F w) yb (submitL x st m) ∧ Fr F w w':=by
 have same:∀ w',Below w.heap.size w w' → DocAt w' (Plus F w) yb x ∧ Fr F w w':=fun w' hb=>⟨(h.below hb).mono fun _=>Or.inl,Fr.of_below hb⟩
 obtain ⟨r0,r1,hl,hr,hzy⟩:=h
 have hq8:=hg.c.queue.2
 by_cases hs:st = 0 ∨ st = 1
 ·obtain ⟨i,hi,rfl⟩:∃ i:Nat,i < 2 ∧ st = (i:Int):=by rcases hs with rfl | rfl; exact ⟨0,by omega,rfl⟩; exact ⟨1,by omega,rfl⟩
  by_cases hd:Blk.headOk m.head = true
  ·obtain ⟨d1,d2⟩:=headOk_true hd
   by_cases hx:textOk m = true
   ·have hm:MsgFit m:=(fit_iff m).2 ⟨hd,hx⟩
    obtain ⟨t1,t2⟩:=textOk_true hx
    by_cases hq:x.c.queue ≤ (stnOf x i).queue.length
    ·have eE:submitE x i m = 8:=by unfold submitE; rw [if_neg (fun k=>k hs),if_neg (by simp [hd]),if_neg (by simp [hx]),if_pos hq]
     have eN:submitN x i m = 0:=by unfold submitN; rw [eE]; rfl
     have eL:submitL x i m = x:=by unfold submitL; rw [eE]; rfl
     rw [eE,eN,eL]
     have full:∀ (F0:Nat → Prop) (A:RAd) (s:RS) (on:List UInt8),RAt w F0 A x.c x.now s on → yb = A.yb → i = A.i → x.c.queue ≤ s.q.length → Calls Tryz.prog 33 #[.pointer (some ⟨yb,0,none⟩),.int .i64 (i:Int),msgV m] w fun e w'=>e = .returned (.tuple #[.int .i64 ((0:Nat):Int),.int .i64 8]) ∧ DocAt w' (Plus F w) yb x ∧ Fr F w w':=by
      intro F0 A s on hA hy hia hqq
      rcases t2 with t2 | ⟨t2,t3⟩
      ·refine (rsub_full1 yb i m w hi hh ht d1 d2 t1 t2 F0 A x.c x.now s on hA hy hia hqq).mono ?_
       rintro e w' ⟨rfl,hb⟩
       exact ⟨rfl,same w' hb⟩
      ·refine (rsub_full2 yb i m w hi hh ht d1 d2 t1 t2 t3 F0 A x.c x.now s on hA hy hia hqq).mono ?_
       rintro e w' ⟨rfl,hb⟩
       exact ⟨rfl,same w' hb⟩
     obtain ⟨sl,ob,b0,b1,F0,F1,h0,h1,_⟩:=hl.at'
     rcases (show i = 0 ∨ i = 1 by omega) with rfl | rfl
     ·exact full F0 _ r0 _ h0 rfl rfl (by rw [hr.a.q]; exact hq)
     ·exact full F1 _ r1 _ h1 rfl rfl (by rw [hr.b.q]; exact hq)
    ·have eE:submitE x i m = 0:=by unfold submitE; rw [if_neg (fun k=>k hs),if_neg (by simp [hd]),if_neg (by simp [hx]),if_neg hq]
     have eN:submitN x i m = (stnOf x i).joined + 1:=by unfold submitN; rw [if_pos eE]
     rw [eE,eN]
     rcases (show i = 0 ∨ i = 1 by omega) with rfl | rfl
     ·have eL:submitL x ((0:Nat):Int) m = { x with s0:=subS x.s0 m }:=by unfold submitL; rw [if_pos eE]; rfl
      rw [eL]
      obtain ⟨sl,ob,b0,F0,h0,hF0,hlift⟩:=hl.sub0
      refine (rsubmit_ok F0 ⟨yb,sl,ob,b0,0⟩ x.c x.now r0 x.on0 m w h0 hF0 hm (by rw [hr.a.q]; exact Nat.lt_of_not_le hq) hq8 (by rw [hr.a.joined]; exact j0)).mono ?_
      rintro e w' ⟨rfl,k,B⟩
      obtain ⟨k1,k2⟩:=hlift w' _ k B
      exact ⟨by rw [hr.a.joined]; rfl,⟨_,r1,k1,⟨rrel_sub m hr.a,hr.b⟩,fun j=>(World.frozen?_of_block (B.block _ h0.lyb (fun z=>z.elim h0.ok.h3 h0.ok.f1))).trans (hzy j)⟩,k2⟩
     ·have eL:submitL x ((1:Nat):Int) m = { x with s1:=subS x.s1 m }:=by unfold submitL; rw [if_pos eE]; rfl
      rw [eL]
      obtain ⟨sl,ob,b1,F1,h1,hF1,hlift⟩:=hl.sub1
      refine (rsubmit_ok F1 ⟨yb,sl,ob,b1,1⟩ x.c x.now r1 x.on1 m w h1 hF1 hm (by rw [hr.b.q]; exact Nat.lt_of_not_le hq) hq8 (by rw [hr.b.joined]; exact j1)).mono ?_
      rintro e w' ⟨rfl,k,B⟩
      obtain ⟨k1,k2⟩:=hlift w' _ k B
      exact ⟨by rw [hr.b.joined]; rfl,⟨r0,_,k1,⟨hr.a,rrel_sub m hr.b⟩,fun j=>(World.frozen?_of_block (B.block _ h1.lyb (fun z=>z.elim h1.ok.h3 h1.ok.f1))).trans (hzy j)⟩,k2⟩
   ·have hx':textOk m = false:=by simpa using hx
    have eE:submitE x i m = 4:=by unfold submitE; rw [if_neg (fun k=>k hs),if_neg (by simp [hd]),if_pos hx']
    have eN:submitN x i m = 0:=by unfold submitN; rw [eE]; rfl
    have eL:submitL x i m = x:=by unfold submitL; rw [eE]; rfl
    rw [eE,eN,eL]
    rcases textOk_false hx' with t | ⟨t,t2,t3⟩
    ·refine (rsub_text1 yb i m w hi hh ht d1 d2 t).mono ?_
     rintro e w' ⟨rfl,hb⟩
     exact ⟨rfl,same w' hb⟩
    ·refine (rsub_text2 yb i m w hi hh ht d1 d2 t t2 t3).mono ?_
     rintro e w' ⟨rfl,hb⟩
     exact ⟨rfl,same w' hb⟩
  ·have hd':Blk.headOk m.head = false:=by simpa using hd
   have eE:submitE x i m = 2:=by unfold submitE; rw [if_neg (fun k=>k hs),if_pos hd']
   have eN:submitN x i m = 0:=by unfold submitN; rw [eE]; rfl
   have eL:submitL x i m = x:=by unfold submitL; rw [eE]; rfl
   rw [eE,eN,eL]
   rcases headOk_false hd' with t | ⟨t,t2⟩
   ·refine (rsub_head1 yb i m w hi hh ht t).mono ?_
    rintro e w' ⟨rfl,hb⟩
    exact ⟨rfl,same w' hb⟩
   ·refine (rsub_head2 yb i m w hi hh ht t t2).mono ?_
    rintro e w' ⟨rfl,hb⟩
    exact ⟨rfl,same w' hb⟩
 ·have eE:submitE x st m = 7:=by unfold submitE; rw [if_pos hs]
  have eN:submitN x st m = 0:=by unfold submitN; rw [eE]; rfl
  have eL:submitL x st m = x:=by unfold submitL; rw [eE]; rfl
  rw [eE,eN,eL]
  refine (rsubmit_station yb st m w hs).mono ?_
  rintro e w' ⟨rfl,hb⟩
  exact ⟨rfl,same w' hb⟩
theorem rbusy_line (F:Nat → Prop) (yb:Nat) (x:Ln) (st:Int) (on:Bool) (w:World) (h:DocAt w F yb x) :
  Calls Tryz.prog 36 #[.pointer (some ⟨yb,0,none⟩),.int .i64 st,.bool on] w fun e w'=>e = .returned (.int .i64 (busyE st)) ∧ DocAt w' (Plus F w) yb (busyL x st on) ∧ Fr F w w':=by
 have h':=h
 obtain ⟨r0,r1,hl,hr,hzy⟩:=h
 by_cases h0:st = 0
 ·subst h0
  have eE:busyE 0 = 0:=by unfold busyE; rw [if_pos (Or.inl rfl)]
  have eL:busyL x 0 on = { x with s0:={ x.s0 with busy:=on } }:=by unfold busyL; rw [if_pos rfl]
  rw [eE,eL]
  obtain ⟨sl,ob,b0,F0,k0,hF0,hlift⟩:=hl.one0
  refine (rbusy_one F0 ⟨yb,sl,ob,b0,0⟩ x.c x.now r0 x.on0 on w k0).mono ?_
  rintro e w' ⟨rfl,k,B⟩
  obtain ⟨k1,k2⟩:=hlift w' _ _ (k.mono (fun _=>Or.inl) (k0.okP (Nat.le_refl _))) B
  exact ⟨rfl,⟨_,r1,k1,(hr.busy on).1,fun j=>(World.frozen?_of_block (B.block _ k0.lyb k0.ok.h3 k0.ok.h2)).trans (hzy j)⟩,k2⟩
 ·by_cases h1:st = 1
  ·subst h1
   have eE:busyE 1 = 0:=by unfold busyE; rw [if_pos (Or.inr rfl)]
   have eL:busyL x 1 on = { x with s1:={ x.s1 with busy:=on } }:=by unfold busyL; rw [if_neg (by decide),if_pos rfl]
   rw [eE,eL]
   obtain ⟨sl,ob,b1,F1,k1',hF1,hlift⟩:=hl.one1
   refine (rbusy_one F1 ⟨yb,sl,ob,b1,1⟩ x.c x.now r1 x.on1 on w k1').mono ?_
   rintro e w' ⟨rfl,k,B⟩
   obtain ⟨k1,k2⟩:=hlift w' _ _ (k.mono (fun _=>Or.inl) (k1'.okP (Nat.le_refl _))) B
   exact ⟨rfl,⟨r0,_,k1,(hr.busy on).2,fun j=>(World.frozen?_of_block (B.block _ k1'.lyb k1'.ok.h3 k1'.ok.h2)).trans (hzy j)⟩,k2⟩
  ·have eE:busyE st = 7:=by unfold busyE; rw [if_neg (by omega)]
   have eL:busyL x st on = x:=by unfold busyL; rw [if_neg h0,if_neg h1]
   rw [eE,eL]
   refine (rbusy_no yb st on w (by omega)).mono ?_
   rintro e w' ⟨rfl,hw⟩
   subst hw
   exact ⟨rfl,h'.mono fun _=>Or.inl,Fr.refl _ _⟩
/-- Both stations in the midst of a tick. -/
structure Two (W:World) (F0 F1:Nat → Prop) (yb sl ob b0 b1:Nat) (c:Cfg) (now:Nat) (s0 s1:RS) (on0 on1:List UInt8):Prop where
 a:RAt W F0 ⟨yb,sl,ob,b0,0⟩ c now s0 on0
 b:RAt W F1 ⟨yb,sl,ob,b1,1⟩ c now s1 on1
 z:∀ j,W.frozen? ⟨yb,j,none⟩ = false
theorem Two.below {W W':World} {F0 F1:Nat → Prop} {yb sl ob b0 b1:Nat} {c:Cfg} {now:Nat} {s0 s1:RS} {on0 on1:List UInt8} (h:Two W F0 F1 yb sl ob b0 b1 c now s0 s1 on0 on1) (k:Below W.heap.size W W'):Two W' F0 F1 yb sl ob b0 b1 c now s0 s1 on0 on1 :=
 ⟨h.a.below k,h.b.below k,fun j=>(k.frozen h.a.lyb).trans (h.z j)⟩
theorem Two.now {W:World} {F0 F1:Nat → Prop} {yb sl ob b0 b1:Nat} {c:Cfg} {now:Nat} {s0 s1:RS} {on0 on1:List UInt8} (h:Two W F0 F1 yb sl ob b0 b1 c now s0 s1 on0 on1) (x:Nat):Two (W.setCell ⟨yb,10,none⟩ (.int .i64 x)) F0 F1 yb sl ob b0 b1 c x s0 s1 on0 on1 :=
 ⟨h.a.now' x,h.b.now' x,fun j=>(World.frozen?_setCell _ _ _ _).trans (h.z j)⟩
theorem Two.onl {W:World} {F0 F1:Nat → Prop} {yb sl ob b0 b1:Nat} {c:Cfg} {now:Nat} {s0 s1:RS} {on0 on1:List UInt8} (h:Two W F0 F1 yb sl ob b0 b1 c now s0 s1 on0 on1) (h0:∀ g,F0 g → g < W.heap.size) (h1:∀ g,F1 g → g < W.heap.size):Two ((W.alloc (.cells #[.string ⟨#[]⟩,.string ⟨#[]⟩] 9)).setCell ⟨yb,12,none⟩ (.slice (some ⟨W.heap.size,0,none⟩) 2 2)) F0 F1 yb sl W.heap.size b0 b1 c now s0 s1 [] []:=by
 have l:=h.a.lyb
 refine ⟨h.a.onl' h0 (h.z 12),h.b.onl' h1 (h.z 12),fun j=>(World.frozen?_setCell _ _ _ _).trans ?_⟩
 exact (Below.frozen ((Below.refl W.heap.size W).alloc (Nat.le_refl _) _) l).trans (h.z j)
/-- Ahead of what the stations do. -/
structure TkA (w W:World) (F0 F1:Nat → Prop) (yb sl ob b0 b1:Nat) (c:Cfg) (now:Nat) (r0 r1:RS) (m1 m2 m3 m4:Nat) (v0:Value) (B0:Ans) (v1:Value) (B1:Ans):Prop where
 two:Two W (fun g=>F0 g ∨ (m1 ≤ g ∧ g < m2)) (fun g=>F1 g ∨ (m3 ≤ g ∧ g < m4)) yb sl ob b0 b1 c now r0 r1 [] []
 h0:RHrd W (fun g=>F0 g ∨ (m1 ≤ g ∧ g < m2)) v0 B0
 h1:RHrd W (fun g=>F1 g ∨ (m3 ≤ g ∧ g < m4)) v1 B1
 fr:Fr (fun g=>g = yb) w W
 sz:m4 + 1 < W.heap.size
theorem RHrd.bound {w:World} {F:Nat → Prop} {x:Value} {B:Ans} (h:RHrd w F x B):RHrd w (fun g=>F g ∧ g < w.heap.size) x B:=by
 cases B with
 | data hd ps c t =>
  obtain ⟨v,lb,e,hr,hf,r⟩:=h
  exact ⟨v,lb,e,hr,fun g hg=>⟨hf g hg,(World.ownsRow.lt hr g hg).2⟩,r⟩
 | none n=>exact h
theorem tka_mk {w W1 w2 W3 w4 V5:World} {F0 F1:Nat → Prop} {yb sl b0 b1:Nat} {c:Cfg} {now:Nat} {r0 r1:RS} {v0 v1:Value} {B0 B1:Ans} (fr1:Fr (fun g=>g = yb) w W1) (hb2:Below W1.heap.size W1 w2) (hb3:Below w2.heap.size w2 W3) (hb4:Below W3.heap.size W3 w4) (hb5:Below w4.heap.size w4 V5) (hs5:V5.heap.size = w4.heap.size + 1)
  (ly:yb < w.heap.size) (lsl:sl < w.heap.size) (lb0:b0 < w.heap.size) (lb1:b1 < w.heap.size)
  (t:Two ((V5.alloc (.cells #[.string ⟨#[]⟩,.string ⟨#[]⟩] 9)).setCell ⟨yb,12,none⟩ (.slice (some ⟨V5.heap.size,0,none⟩) 2 2)) F0 F1 yb sl V5.heap.size b0 b1 c now r0 r1 [] []) (h0:RHrd w2 (fun g=>W1.heap.size ≤ g) v0 B0) (h1:RHrd w4 (fun g=>W3.heap.size ≤ g) v1 B1) :
  TkA w ((V5.alloc (.cells #[.string ⟨#[]⟩,.string ⟨#[]⟩] 9)).setCell ⟨yb,12,none⟩ (.slice (some ⟨V5.heap.size,0,none⟩) 2 2)) F0 F1 yb sl (w4.heap.size + 1) b0 b1 c now r0 r1 W1.heap.size w2.heap.size W3.heap.size w4.heap.size v0 B0 v1 B1:=by
 have s1:=fr1.size
 have s2:=hb2.size
 have s3:=hb3.size
 have s4:=hb4.size
 have e5:w4.heap.size + 1 = V5.heap.size:=hs5.symm
 rw [e5]
 have k4:∀ g,g < w4.heap.size → g ≠ yb → ((V5.alloc (.cells #[.string ⟨#[]⟩,.string ⟨#[]⟩] 9)).setCell ⟨yb,12,none⟩ (.slice (some ⟨V5.heap.size,0,none⟩) 2 2)).heap[g]? = w4.heap[g]?:=fun g hl hn=>by
  rw [Below.heap_setCell _ _ _ _ hn,Below.heap_alloc _ _ _ (by omega)]
  exact hb5.block g hl
 have k2:∀ g,g < w2.heap.size → w4.heap[g]? = w2.heap[g]?:=fun g hl=>(hb4.block g (by omega)).trans (hb3.block g hl)
 refine ⟨⟨t.a.mono (fun _=>Or.inl) ?_,t.b.mono (fun _=>Or.inl) ?_,t.z⟩,?_,?_,?_,by simp; omega⟩
 ·have o:=t.a.ok
  exact ⟨o.i,o.h1,o.h2,o.h3,o.h4,o.h5,o.h6,fun z=>z.elim o.f1 (fun y=>by simp only at y; omega),fun z=>z.elim o.f2 (fun y=>by simp only at y; omega),fun z=>z.elim o.f3 (fun y=>by simp only at y; omega),fun z=>z.elim o.f4 (fun y=>by simp only at y; omega)⟩
 ·have o:=t.b.ok
  exact ⟨o.i,o.h1,o.h2,o.h3,o.h4,o.h5,o.h6,fun z=>z.elim o.f1 (fun y=>by simp only at y; omega),fun z=>z.elim o.f2 (fun y=>by simp only at y; omega),fun z=>z.elim o.f3 (fun y=>by simp only at y; omega),fun z=>z.elim o.f4 (fun y=>by simp only at y; omega)⟩
 ·exact (h0.bound.keep (fun g hg hl=>(k4 g (by omega) (fun e=>by have:=hg.1; omega)).trans (k2 g hl))).mono (fun g hg=>Or.inr hg)
 ·exact (h1.bound.keep (fun g hg hl=>k4 g hl (fun e=>by have:=hg.1; omega))).mono (fun g hg=>Or.inr hg)
 ·refine ⟨hb5.os.trans (hb4.os.trans (hb3.os.trans (hb2.os.trans fr1.os))),hb5.tape.trans (hb4.tape.trans (hb3.tape.trans (hb2.tape.trans fr1.tape))),hb5.output.trans (hb4.output.trans (hb3.output.trans (hb2.output.trans fr1.output))),by simp; omega,fun g hl hn=>?_⟩
  rw [k4 g (by omega) hn,k2 g (by omega),hb2.block g (by omega)]
  exact fr1.block g hl hn
theorem evV_none:evV none = .agg #[.int .i64 0,.int .i64 0,.int .i64 0,.string ⟨#[]⟩,.string ⟨#[]⟩,.bool false]:=rfl
theorem evV_some (e:Ev):evV (some e) = .agg #[.int .i64 e.kind,.int .i64 e.station,.int .i64 e.number,.string ⟨e.msg.head.toArray⟩,.string ⟨e.msg.text.toArray⟩,.bool e.msg.clear]:=rfl
theorem OwnE.nil (w:World) (B:Nat):OwnE w B (.slice none 0 0) []:=World.ownsRow_nil w B _ _
theorem hrd_rb {A:RAd} {w w':World} {g:Nat} {n h v c t:Value} (x:HrdAt w g n h v c t) (k:RB A w w') (h1:g ≠ A.sb) (h2:g ≠ A.ob):HrdAt w' g n h v c t:=(k.block g (lt_of_block x) h1 h2).trans x
/-- Behind the first station. -/
structure TkB (w W:World) (F0 F1:Nat → Prop) (yb sl ob b0 b1:Nat) (c:Cfg) (now:Nat) (d0:RS) (on0:List UInt8) (r1:RS) (m1 m2 m3 m4 m5 m6:Nat) (v1:Value) (B1:Ans):Prop where
 a:RAt W (fun g=>F0 g ∨ (m1 ≤ g ∧ g < m2) ∨ (m5 ≤ g ∧ g < m6)) ⟨yb,sl,ob,b0,0⟩ c now d0 on0
 b:RAt W (fun g=>F1 g ∨ (m3 ≤ g ∧ g < m4)) ⟨yb,sl,ob,b1,1⟩ c now r1 []
 z:∀ j,W.frozen? ⟨yb,j,none⟩ = false
 h1:RHrd W (fun g=>F1 g ∨ (m3 ≤ g ∧ g < m4)) v1 B1
 fr:Fr (fun g=>g = yb ∨ g = b0) w W
 sz:m6 ≤ W.heap.size
theorem TkB.below {w W W':World} {F0 F1:Nat → Prop} {yb sl ob b0 b1:Nat} {c:Cfg} {now:Nat} {d0 r1:RS} {on0:List UInt8} {m1 m2 m3 m4 m5 m6:Nat} {v1:Value} {B1:Ans} (h:TkB w W F0 F1 yb sl ob b0 b1 c now d0 on0 r1 m1 m2 m3 m4 m5 m6 v1 B1) (k:Below W.heap.size W W'):TkB w W' F0 F1 yb sl ob b0 b1 c now d0 on0 r1 m1 m2 m3 m4 m5 m6 v1 B1 :=
 ⟨h.a.below k,h.b.below k,fun j=>(k.frozen h.a.lyb).trans (h.z j),h.h1.below k,h.fr.trans (Fr.of_below (F:=fun _=>False) k) (fun _ _ z=>z.elim),Nat.le_trans h.sz k.size⟩
theorem tkb_mk {w W w6:World} {F0 F1:Nat → Prop} {yb sl ob b0 b1:Nat} {c:Cfg} {now:Nat} {r0 r1 d0:RS} {on0:List UInt8} {m1 m2 m3 m4:Nat} {v0 v1:Value} {B0 B1:Ans} (t:TkA w W F0 F1 yb sl ob b0 b1 c now r0 r1 m1 m2 m3 m4 v0 B0 v1 B1) (hob:w.heap.size ≤ ob) (hm:w.heap.size ≤ m3) (hmo:m4 ≤ ob) (n01:b0 ≠ b1) (a2:¬ F1 b0) (l1:∀ g,F1 g → g < w.heap.size) (lb:b0 < w.heap.size)
  (k:RAt w6 (Plus (fun g=>F0 g ∨ (m1 ≤ g ∧ g < m2)) W) ⟨yb,sl,ob,b0,0⟩ c now d0 on0) (b6:RB ⟨yb,sl,ob,b0,0⟩ W w6):TkB w w6 F0 F1 yb sl ob b0 b1 c now d0 on0 r1 m1 m2 m3 m4 W.heap.size w6.heap.size v1 B1:=by
 have hs:=t.fr.size
 have o:=t.two.a.ok
 have kb:=k.bound
 have ho:=k.ok
 have hb0:¬ (F1 b0 ∨ (m3 ≤ b0 ∧ b0 < m4)):=fun z=>z.elim a2 (fun y=>by omega)
 refine ⟨kb.mono ?_ ?_,t.two.b.other (A':=⟨yb,sl,ob,b0,0⟩) rfl (by simp) (Ne.symm n01) (Ne.symm o.h3) (Ne.symm o.h5) hb0 b6,fun j=>(World.frozen?_of_block (b6.block _ t.two.a.lyb o.h3 o.h2)).trans (t.two.z j),t.h1.keep ?_,?_,Nat.le_refl _⟩
 ·rintro g ⟨z | z,zl⟩
  ·exact z.imp id Or.inl
  ·exact Or.inr (Or.inr ⟨z,zl⟩)
 ·have l1:=t.two.a.lyb
  have l2:=t.two.a.lsl
  have l3:=t.two.a.lob
  have l4:=t.two.a.lsb
  exact ⟨o.i,o.h1,o.h2,o.h3,o.h4,o.h5,o.h6,fun z=>z.elim (fun y=>o.f1 (Or.inl y)) (fun y=>y.elim (fun y=>o.f1 (Or.inr y)) (fun y=>by simp only at l1 y; omega)),fun z=>z.elim (fun y=>o.f2 (Or.inl y)) (fun y=>y.elim (fun y=>o.f2 (Or.inr y)) (fun y=>by simp only at l2 y; omega)),fun z=>z.elim (fun y=>o.f3 (Or.inl y)) (fun y=>y.elim (fun y=>o.f3 (Or.inr y)) (fun y=>by simp only at l3 y; omega)),fun z=>z.elim (fun y=>o.f4 (Or.inl y)) (fun y=>y.elim (fun y=>o.f4 (Or.inr y)) (fun y=>by simp only at l4 y; omega))⟩
 ·intro g hg hl
  refine b6.block g hl (fun e=>hb0 (by simp only at e; rw [← e]; exact hg)) (fun e=>?_)
  simp only at e
  rcases hg with y | y
  ·have:=l1 g y; omega
  ·omega
 ·refine ⟨b6.os.trans t.fr.os,b6.tape.trans t.fr.tape,b6.output.trans t.fr.output,Nat.le_trans hs b6.size,fun g hl hn=>?_⟩
  rw [b6.block g (by omega) (fun e=>hn (Or.inr e)) (fun e=>by simp only at e; omega)]
  exact t.fr.block g hl (fun e=>hn (Or.inl e))
theorem OwnE.baseE {w:World} {B C:Nat} {v:Value} {l:List Ev} (h:OwnE w B v l) (hC:C ≤ B):OwnE w C v l:=⟨h.1,h.2.imp id fun ⟨g,cap,cur,a,b,r⟩=>⟨g,cap,cur,a,Nat.le_trans hC b,r⟩⟩
/-- Behind both. -/
theorem tkc_mk {w V w8 w9:World} {F F0 F1:Nat → Prop} {yb sl ob b0 b1:Nat} {x:Ln} {r1:RS} {d0 d1:RS} {on0 on1:List UInt8} {m1 m2 m3 m4 m5 m6:Nat} {v1:Value} {B1:Ans} (t:TkB w V F0 F1 yb sl ob b0 b1 x.c (x.now + 1) d0 on0 r1 m1 m2 m3 m4 m5 m6 v1 B1) (hob:w.heap.size ≤ ob) (h12:w.heap.size ≤ m1 ∧ m1 ≤ m2 ∧ m2 ≤ m3 ∧ m3 ≤ m4 ∧ m4 < ob ∧ ob < m5 ∧ m5 ≤ m6) (n01:b0 ≠ b1) (a1:¬ F0 b1) (a2:¬ F1 b0) (a3:∀ g,F0 g → ¬ F1 g) (a4:∀ g,F0 g → F g ∧ g < w.heap.size) (a5:∀ g,F1 g → F g ∧ g < w.heap.size) (f1:F yb) (f2:F sl) (f4:F b0) (f5:F b1) (lb0:b0 < w.heap.size) (lb1:b1 < w.heap.size) (lyw:yb < w.heap.size) (lsw:sl < w.heap.size)
  (k:RAt w8 (Plus (fun g=>F1 g ∨ (m3 ≤ g ∧ g < m4)) V) ⟨yb,sl,ob,b1,1⟩ x.c (x.now + 1) d1 on1) (b8:RB ⟨yb,sl,ob,b1,1⟩ V w8) (hK:∀ g,g < w8.heap.size → (g < m6 ∨ V.heap.size ≤ g) → w9.heap[g]? = w8.heap[g]?) (hos:w9.os = w8.os) (htp:w9.tape = w8.tape) (hou:w9.output = w8.output) (hsz:w8.heap.size ≤ w9.heap.size)
  (hr:RLR (tick x) d0 d1) (e0:on0 = (tick x).on0) (e1:on1 = (tick x).on1):DocAt w9 (Plus F w) yb (tick x) ∧ Fr F w w9:=by
 have hs:=t.fr.size
 have h6:=t.sz
 have h8:=b8.size
 have o:=t.b.ok
 have hb1:¬ (F0 b1 ∨ (m1 ≤ b1 ∧ b1 < m2) ∨ (m5 ≤ b1 ∧ b1 < m6)):=fun z=>z.elim a1 (fun y=>by omega)
 have ka:=t.a.other (A':=⟨yb,sl,ob,b1,1⟩) rfl (by simp) n01 (Ne.symm o.h3) (Ne.symm o.h5) hb1 b8
 have kb:=k.bound
 have hm6:w.heap.size ≤ m6:=by omega
 have ka9:=ka.keep (w':=w9) (by
  rintro g (rfl | rfl | rfl | rfl | hg) hl
  ·exact hK _ hl (Or.inl (by omega))
  ·exact hK _ hl (Or.inl (by omega))
  ·exact hK _ hl (Or.inl (by omega))
  ·exact hK _ hl (Or.inl (by omega))
  ·refine hK _ hl (Or.inl ?_)
   rcases hg with y | y | y
   ·have:=(a4 g y).2; omega
   ·omega
   ·omega)
 have kb9:=kb.keep (w':=w9) (by
  rintro g (rfl | rfl | rfl | rfl | hg) hl
  ·exact hK _ hl (Or.inl (by omega))
  ·exact hK _ hl (Or.inl (by omega))
  ·exact hK _ hl (Or.inl (by omega))
  ·exact hK _ hl (Or.inl (by omega))
  ·refine hK _ hl ?_
   rcases hg.1 with (y | y) | y
   ·left; have:=(a5 g y).2; omega
   ·left; omega
   ·right; exact y)
 have by9:w9.heap[yb]? = V.heap[yb]?:=(hK yb (by omega) (Or.inl (by omega))).trans (b8.block yb (by omega) o.h3 o.h2)
 refine ⟨⟨d0,d1,⟨sl,ob,b0,b1,_,_,e0 ▸ ka9,e1 ▸ kb9,n01,hb1,?_,?_,?_,?_,Or.inl f1,Or.inl f2,Or.inr hob,Or.inl f4,Or.inl f5⟩,hr,fun j=>(World.frozen?_of_block by9).trans (t.z j)⟩,⟨hos.trans (b8.os.trans t.fr.os),htp.trans (b8.tape.trans t.fr.tape),hou.trans (b8.output.trans t.fr.output),by omega,fun g hl hn=>?_⟩⟩
 ·rintro ⟨(y | y) | y,_⟩
  ·exact a2 y
  ·omega
  ·omega
 ·rintro g y ⟨z,zl⟩
  rcases y with y | y | y
  ·rcases z with (z | z) | z
   ·exact a3 g y z
   ·have:=(a4 g y).2; omega
   ·have:=(a4 g y).2; omega
  ·rcases z with (z | z) | z
   ·have:=(a5 g z).2; omega
   ·omega
   ·omega
  ·rcases z with (z | z) | z
   ·have:=(a5 g z).2; omega
   ·omega
   ·omega
 ·rintro g (y | y | y)
  ·exact ⟨Or.inl (a4 g y).1,by have:=(a4 g y).2; omega⟩
  ·exact ⟨Or.inr (by omega),by omega⟩
  ·exact ⟨Or.inr (by omega),by omega⟩
 ·rintro g ⟨(y | y) | y,zl⟩
  ·exact ⟨Or.inl (a5 g y).1,by omega⟩
  ·exact ⟨Or.inr (by omega),by omega⟩
  ·exact ⟨Or.inr (by omega),by omega⟩
 ·rw [hK g (by omega) (Or.inl (by omega)),b8.block g (by omega) (fun e=>hn (by simp only at e; rw [e]; exact f5)) (fun e=>by simp only at e; omega)]
  exact t.fr.block g hl (fun z=>z.elim (fun e=>hn (by rw [e]; exact f1)) (fun e=>hn (by rw [e]; exact f4)))
end Go.Proofs.YtlbpjcphhocdkaaGreat
