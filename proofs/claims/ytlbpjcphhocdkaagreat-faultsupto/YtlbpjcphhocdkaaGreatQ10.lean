/- Of no program: append as one step of a region that draws its order, and where its answer lies. A message joins a station's queue. A message that does not join. -/
import Derived.Test.YtlbpjcphhocdkaaGreatQ09
import Derived.Deep.RegionLaw
set_option maxRecDepth 1000000
set_option maxHeartbeats 16000000
namespace Go.Proofs.YtlbpjcphhocdkaaGreat
open Go.RowKit
theorem step_append_foot {P:Program} {ops:Array Oper} {o:Oper} {a:Act} {w:World} {K:Act → World → Prop} {Q:Exit → Act → World → Prop} {E:Prop}
  (hgd:o.guard = none) (s x:Operand) (t:TypeId) (ho:o.op = .call { callee:=.builtin .append,args:=#[s,x],argTypes:=#[t,t] })
  (base:Nat) (e:TypeId) (i:TypeInfo) (z:Value) (size bytes:Nat) (ht:P.underlying t = some (.slice e)) (hi:P.info? e = some i) (hz:i.zero = some z)
  (hsize:i.size = size) (hby:i.bytes = bytes) (hzs:z.cells.size = size) (hsz:0 < size)
  (v:Value) (n:Nat) (xs:List Value) (hs:a.eval s = v) (hown:w.ownsRow base e size v n xs)
  (ad:Addr) (m c:Nat) (news:List Value) (hx:a.eval x = .slice (some ad) m c) (hl:news.length = m * size) (hnews:∀ j u,news[j]? = some u → w.cell? (ad.add j) = some u) (h1:∀ u ∈ news,u.oneCell' = true)
  (h63:n + m ≤ maxLen) (hbytes:(n + m) * bytes ≤ 140737488355328) (hbase:base ≤ w.heap.size)
  (hK:∀ v' w',w'.ownsRow base e size v' (n + m) (xs ++ news) → w.grownBy w' v.ownBlock → (∀ g,v'.ownBlock = some g → v.ownBlock = some g ∨ w.heap.size ≤ g) → K (a.put o.dst v') w') :
  if Region.wanted o (yielded ops a.tmps) = true then Oper.wp P o a w K Q else E:=by
 have hw:Region.wanted o (yielded ops a.tmps) = true:=by simp [Region.wanted,hgd]
 rw [if_pos hw]
 obtain ⟨v',w',hr,h2,h3,h4⟩:=run_append_foot (P:=P) w base t o.type e i z size bytes ht hi hz hsize hby hzs hsz v n xs hown ad m c news hl hnews h1 h63 hbytes hbase
 unfold Oper.wp execOp
 simp only [ho,resolve,invoke,builtin,Sem.run_bind,Sem.run_pure,Result.andThen_ok,List.map_toArray,List.map_cons,List.map_nil,hs,hx,hr]
 exact hK v' w' h2 h3 h4
end Go.Proofs.YtlbpjcphhocdkaaGreat
namespace Go.Proofs.YtlbpjcphhocdkaaGreat
open Go.RowKit Go.Proofs.YtlbpjcphhocdkaaGreat.Mod Go.Proofs.YtlbpjcphhocdkaaGreat.Pst
/-- What a message that joins leaves: the station's queue and number,nothing else. -/
structure Joins (w w':World) (F0:Nat → Prop) (b o:Nat) (s:PS) (m:Msg):Prop where
 st:StAt w' (Plus F0 w) b o { s with q:=s.q ++ [m],joined:=s.joined + 1 }
 fr:Fr (fun g=>g = b ∨ F0 g) w w'
 cell:∀ j,j < o ∨ o + 15 ≤ j → w'.cell? ⟨b,j,none⟩ = w.cell? ⟨b,j,none⟩
 froz:∀ j,w'.frozen? ⟨b,j,none⟩ = w.frozen? ⟨b,j,none⟩
/-- The facts at the append. -/
theorem join_app {w W w':World} {F0:Nat → Prop} {b o:Nat} {s:PS} {m:Msg} {v v':Value} (h:StAt w F0 b o s) (hW:Below w.heap.size w W) (hv:w.cell? ⟨b,o + 1,none⟩ = some v) (hg:W.grownBy w' v.ownBlock) (hown:w'.ownsRow 0 60 3 v' (s.q.length + 1) (mcells s.q ++ msgCells m)) (hk:∀ g,v'.ownBlock = some g → v.ownBlock = some g ∨ W.heap.size ≤ g) :
  (∀ j,w'.cell? ⟨b,j,none⟩ = w.cell? ⟨b,j,none⟩) ∧ (∀ j,w'.frozen? ⟨b,j,none⟩ = w.frozen? ⟨b,j,none⟩) ∧ QAt w' (Plus F0 w) v' (s.q ++ [m]) ∧ StAt w' F0 b o s = StAt w' F0 b o s ∧ Fr F0 w w':=by
 obtain ⟨u,hu,hQ⟩:=h.que
 rw [hv] at hu
 cases hu
 have hlt:=h.lt
 have hs:=hW.size
 have hne:some b ≠ v.ownBlock:=fun e=>h.nb (hQ.2 b e.symm)
 have hb:w'.heap[b]? = w.heap[b]?:=(hg.block b (by omega) hne).trans (hW.block b hlt)
 refine ⟨fun j=>World.cell?_of_block hb,fun j=>World.frozen?_of_block hb,⟨?_,fun g hg=>?_⟩,rfl,⟨hg.os.trans hW.os,hg.tape.trans hW.tape,hg.output.trans hW.output,Nat.le_trans hs hg.size,fun k hk hn=>?_⟩⟩
 ·rw [mcells_append,List.length_append,show mcells [m] = msgCells m by simp [mcells]]
  exact hown
 ·rcases hk g hg with h1 | h1
  ·exact Or.inl (hQ.2 g h1)
  ·exact Or.inr (by omega)
 ·exact (hg.block k (by omega) (fun e=>hn (hQ.2 k e.symm))).trans (hW.block k hk)
/-- R where it ends as it should; nothing else may be. -/
def Only (R:Act → World → Prop):Exit → Act → World → Prop
 | .normal,a,w=>R a w
 | _,_,_=>False
theorem region_only {P:Program} {id:Nat} {ops:Array Oper} {b:Bool} {Q:Exit → Act → World → Prop} {a:Act} {w:World} (R:Act → World → Prop) (h:(Code.region id ops b).wp P (Only R) a w) (k:∀ a' w',R a' w' → Q .normal a' w'):(Code.region id ops b).wp P Q a w :=
 Code.wp_mono (fun e a' w' hr=>by cases e <;> first | exact k a' w' hr | exact (hr:False).elim) h
def Tks (b o:Nat) (a:Act):Prop:=a.defers = [] ∧ a.tmps = List.toArray (.pointer (some ⟨b,0,none⟩)::gd a 1::gd a 2::gd a 3::gd a 4::gd a 5::gd a 6::gd a 7::.pointer (some ⟨b,o,none⟩)::gd a 9::gd a 10::gd a 11::gd a 12::gd a 13::gd a 14::gd a 15::gd a 16::gd a 17::gd a 18::gd a 19::gd a 20::gd a 21::gd a 22::gd a 23::gd a 24::gd a 25::gd a 26::gd a 27::gd a 28::gd a 29::gd a 30::gd a 31::gd a 32::gd a 33::gd a 34::gd a 35::gd a 36::gd a 37::gd a 38::gd a 39::gd a 40::gd a 41::gd a 42::gd a 43::gd a 44::gd a 45::gd a 46::gd a 47::gd a 48::gd a 49::gd a 50::gd a 51::gd a 52::gd a 53::gd a 54::gd a 55::gd a 56::gd a 57::gd a 58::[])
theorem Tks.use {b o:Nat} {a:Act} (h:Tks b o a):∃ u:Nat → Value,a = { tmps:=List.toArray (.pointer (some ⟨b,0,none⟩)::u 1::u 2::u 3::u 4::u 5::u 6::u 7::.pointer (some ⟨b,o,none⟩)::u 9::u 10::u 11::u 12::u 13::u 14::u 15::u 16::u 17::u 18::u 19::u 20::u 21::u 22::u 23::u 24::u 25::u 26::u 27::u 28::u 29::u 30::u 31::u 32::u 33::u 34::u 35::u 36::u 37::u 38::u 39::u 40::u 41::u 42::u 43::u 44::u 45::u 46::u 47::u 48::u 49::u 50::u 51::u 52::u 53::u 54::u 55::u 56::u 57::u 58::[]),defers:=[] }:=⟨fun i=>a.tmps.getD i undef,by obtain ⟨h1,h2⟩:=h; cases a; simp only at h1 h2; subst h1; exact congrArg (fun t=>({ tmps:=t,defers:=[] }:Act)) h2⟩
/-- Behind the append. -/
def JoinR (w:World) (F0:Nat → Prop) (b o:Nat) (s:PS) (m:Msg) (T:Act → Prop) (a:Act) (W:World):Prop :=
 T a ∧ StAt W (Plus F0 w) b o { s with q:=s.q ++ [m] } ∧ Fr (fun g=>g = b ∨ F0 g) w W ∧ (∀ j,j ≠ o + 1 → W.cell? ⟨b,j,none⟩ = w.cell? ⟨b,j,none⟩) ∧ ∀ j,W.frozen? ⟨b,j,none⟩ = w.frozen? ⟨b,j,none⟩
theorem join_set {w w':World} {F0:Nat → Prop} {b o:Nat} {s:PS} {m:Msg} {v':Value} (h:StAt w F0 b o s) (J1:∀ j,w'.cell? ⟨b,j,none⟩ = w.cell? ⟨b,j,none⟩) (J2:∀ j,w'.frozen? ⟨b,j,none⟩ = w.frozen? ⟨b,j,none⟩) (J3:QAt w' (Plus F0 w) v' (s.q ++ [m])) (J5:Fr F0 w w') :
  StAt (w'.setCell ⟨b,o + 1,none⟩ v') (Plus F0 w) b o { s with q:=s.q ++ [m] } ∧ Fr (fun g=>g = b ∨ F0 g) w (w'.setCell ⟨b,o + 1,none⟩ v') ∧ (∀ j,j ≠ o + 1 → (w'.setCell ⟨b,o + 1,none⟩ v').cell? ⟨b,j,none⟩ = w.cell? ⟨b,j,none⟩) ∧ ∀ j,(w'.setCell ⟨b,o + 1,none⟩ v').frozen? ⟨b,j,none⟩ = w.frozen? ⟨b,j,none⟩:=by
 have hlt:=h.lt
 have hN:¬ Plus F0 w b:=fun x=>x.elim h.nb (fun y=>by omega)
 obtain ⟨q,hq,_⟩:=h.que
 have c:∀ k,k ≠ 1 → (w'.setCell ⟨b,o + 1,none⟩ v').cell? ⟨b,o + k,none⟩ = w.cell? ⟨b,o + k,none⟩:=fun k hk=>(cell_set 1 k _ (fun e=>hk e.symm)).trans (J1 _)
 refine ⟨⟨(c 0 (by omega)).trans h.side,⟨v',World.cell?_setCell_same _ _ _ ((J1 _).trans hq),J3.set hN _ _⟩,(c 2 (by omega)).trans h.joined,(c 3 (by omega)).trans h.busy,(c 4 (by omega)).trans h.put,(c 5 (by omega)).trans h.mode,(c 6 (by omega)).trans h.wait,(c 7 (by omega)).trans h.rest,(c 8 (by omega)).trans h.tries,(c 9 (by omega)).trans h.off,(c 10 (by omega)).trans h.free,(c 11 (by omega)).trans h.block,(c 12 (by omega)).trans h.head,(c 13 (by omega)).trans h.text,(c 14 (by omega)).trans h.yes,fun j=>by rw [World.frozen?_setCell,J2]; exact h.fz j,hN⟩,⟨J5.os,J5.tape,J5.output,by simpa using J5.size,fun k hk hn=>?_⟩,fun j hj=>?_,fun j=>by rw [World.frozen?_setCell]; exact J2 j⟩
 ·rw [Below.heap_setCell _ _ _ _ (fun e=>hn (Or.inl e))]
  exact J5.block k hk (fun x=>hn (Or.inr x))
 ·rw [World.cell?_setCell_other _ _ _ _ (by simp only [ne_eq,Addr.mk.injEq,not_and]; omega)]
  exact J1 j
set_option maxRecDepth 1000000 in
theorem submit_ok (F0:Nat → Prop) (b o:Nat) (s:PS) (c:Cfg) (st:Int) (m:Msg) (w:World) (h:StAt w F0 b o s) (hc:CfgL w b c) (hst:(st = 0 ∧ o = 10) ∨ (st = 1 ∧ o = 25)) (hm:MsgFit m) (hr:s.q.length < c.queue) (hq:c.queue ≤ 8) (hj:s.joined ≤ 100000000000000) :
  Calls Tryz.prog 32 #[.pointer (some ⟨b,0,none⟩),.int .i64 st,msgV m] w fun e w'=>e = .returned (.tuple #[.int .i64 (s.joined + 1:Nat),.int .i64 0]) ∧ Joins w w' F0 b o s m:=by
 have hlt:=h.lt
 have hne:b ≠ w.heap.size:=by omega
 obtain ⟨v,c1,hv⟩:=h.que
 have HV:=hide hv
 obtain ⟨a,cap,rfl⟩:=hv.form
 have c2:=h.joined
 have f1:=h.fz (o + 1)
 have f2:=h.fz (o + 2)
 have k3:=hc.2.2.2.1
 have HS:=hide h
 have HH:Hid (Blk.headOk m.head = true):=hm.1
 have HT:Hid ((decide (m.text.length ≤ 200) && (m.clear || !Blk.hasCtl m.text)) = true):=by
  have h2:=hm.2.1
  rcases hm.2.2 with h3 | h3
  ·simp [Hid,h2,h3]
  ·simp [Hid,h2,h3]
 have hhl:(⟨m.head.toArray⟩:ByteArray).size ≤ 140737488352000:=by have:=Blk.headOk_le hm.1; show m.head.length ≤ _; omega
 have htl:(⟨m.text.toArray⟩:ByteArray).size ≤ 140737488352000:=by have:=hm.2.1; show m.text.length ≤ _; omega
 have HHC:=hide (fun W=>isHead_any ⟨m.head.toArray⟩ W hhl)
 have HTC:=hide (fun W=>isText_any ⟨m.text.toArray⟩ 200 m.clear W htl (by omega))
 have HL:Hid (s.q.length = s.q.length):=rfl
 clear h hv hm hc hhl htl
 unfold msgV
 rcases hst with ⟨rfl,rfl⟩ | ⟨rfl,rfl⟩
 ·simp only [Nat.reduceAdd] at c1 c2 f1 f2
  go_enter Tryz.func32,Tryz.ntmps32
  go_wp2_with fail
  refine (isStation_any 0 _).mono ?_
  rintro e w1 ⟨rfl,hw1⟩
  subst hw1
  go_wp2_with fail
  refine (HHC.out _).mono ?_
  rintro e w1 ⟨rfl,hw1⟩
  subst hw1
  rw [HH.out]
  go_wp2_with fail
  refine (HTC.out _).mono ?_
  rintro e w1 ⟨rfl,hw1⟩
  subst hw1
  rw [HT.out]
  go_wp2_with fail
  refine wp_at (fun W=>Below w.heap.size w W ∧ MsAt W w.heap.size m) ⟨(Below.refl _ _).alloc (Nat.le_refl _) _,MsAt.at rfl m⟩ ?_
  rintro W ⟨hb,M0⟩
  have d1:=(hb.cell (p:=⟨b,11,none⟩) hlt).trans c1
  have d2:=(hb.cell (p:=⟨b,12,none⟩) hlt).trans c2
  have dk:=(hb.cell (p:=⟨b,3,none⟩) hlt).trans k3
  have HB:=hide hb
  have HM:=hide M0
  have hr':¬ (c.queue:Int) ≤ (s.q.length:Int):=by omega
  clear hb M0
  go_quiet (fail)
  refine exit_at (fun W=>Below w.heap.size w W ∧ MsAt W w.heap.size m) ⟨below_drewN HB.out nq,HM.out⟩ ?_
  clear d1 d2 dk HB HM
  rintro W1 ⟨hb,M0⟩
  have d1:=(hb.cell (p:=⟨b,11,none⟩) hlt).trans c1
  obtain ⟨m0,m1,m2⟩:=M0.cells
  have hneW:b ≠ W1.heap.size:=by have:=hb.size; omega
  have hbW:b < W1.heap.size:=by have:=hb.size; omega
  have HB:=hide hb
  have HQ1:=hide (HV.out.keep (w':=W1) (fun g _ hg=>hb.block g hg))
  obtain ⟨i0,hi,hz0,hz1,hz2⟩:=info_parts Tryz.infoMsg
  clear hb M0
  go_wp2_with fail
  refine region_only (JoinR w F0 b 10 s m (Tks b 10)) ?_ ?_
  ·go_region_law (refine step_append_foot rfl (.tmp 42) (.tmp 44) 65 rfl 0 60 i0 _ 3 40 Tryz.underlying65 hi hz0 hz1 hz2 rfl (by decide) (.slice a s.q.length cap) s.q.length (mcells s.q) (by simp [Act.eval]) (World.ownsRow.alloc HQ1.out.1 _) ⟨W1.heap.size,0,none⟩ 1 1 (msgCells m) (by simp [Act.eval]) rfl (cells_new _ _ _) (by intro u hu; simp [msgCells] at hu; rcases hu with rfl | rfl | rfl <;> rfl) (by unfold maxLen; omega) (by omega) (Nat.zero_le _) ?_; intro v' w' hown' hgr' hbk'; obtain ⟨J1,J2,J3,_,J5⟩:=join_app HS.out (Below.drew (Below.allocN HB.out _)) c1 hgr' hown' hbk'; obtain ⟨a',cap',rfl⟩:=J3.form; have e1:=(J1 11).trans c1; have e2:=(J2 11).trans f1)
   all_goals (simp only [List.length_append,List.length_cons,List.length_nil,Nat.zero_add] at J3)
   all_goals (have jj:=join_set HS.out J1 J2 J3 J5)
   all_goals (exact ⟨⟨rfl,rfl⟩,jj.1,jj.2.1,jj.2.2.1,jj.2.2.2⟩)
  rintro a'' W2 ⟨htk,hst,hfr,hcl,hfz⟩
  obtain ⟨u,rfl⟩:=htk.use
  have e2:W2.cell? ⟨b,12,none⟩ = some (.int .i64 s.joined):=hst.joined
  have e3:W2.frozen? ⟨b,12,none⟩ = false:=hst.fz _
  have HST:=hide (hst.joined' (s.joined + 1))
  have HFR:=hide hfr
  have HCL:=hide hcl
  have HFZ:=hide hfz
  clear htk hst hfr hcl hfz d1 m0 m1 m2 f1 f2 c1 c2 k3
  go_wp2
  go_ret2
  refine ⟨rfl,HST.out,⟨HFR.out.os,HFR.out.tape,HFR.out.output,by simpa using HFR.out.size,fun k hk hn=>?_⟩,fun j hj=>?_,fun j=>?_⟩
  ·rw [Below.heap_setCell _ _ _ _ (fun e=>hn (Or.inl e))]
   exact HFR.out.block k hk hn
  ·rw [World.cell?_setCell_other _ _ _ _ (by simp only [ne_eq,Addr.mk.injEq,not_and]; omega)]
   exact HCL.out j (by omega)
  ·rw [World.frozen?_setCell]
   exact HFZ.out j
 ·simp only [Nat.reduceAdd] at c1 c2 f1 f2
  go_enter Tryz.func32,Tryz.ntmps32
  go_wp2_with fail
  refine (isStation_any 1 _).mono ?_
  rintro e w1 ⟨rfl,hw1⟩
  subst hw1
  go_wp2_with fail
  refine (HHC.out _).mono ?_
  rintro e w1 ⟨rfl,hw1⟩
  subst hw1
  rw [HH.out]
  go_wp2_with fail
  refine (HTC.out _).mono ?_
  rintro e w1 ⟨rfl,hw1⟩
  subst hw1
  rw [HT.out]
  go_wp2_with fail
  refine wp_at (fun W=>Below w.heap.size w W ∧ MsAt W w.heap.size m) ⟨(Below.refl _ _).alloc (Nat.le_refl _) _,MsAt.at rfl m⟩ ?_
  rintro W ⟨hb,M0⟩
  have d1:=(hb.cell (p:=⟨b,26,none⟩) hlt).trans c1
  have d2:=(hb.cell (p:=⟨b,27,none⟩) hlt).trans c2
  have dk:=(hb.cell (p:=⟨b,3,none⟩) hlt).trans k3
  have HB:=hide hb
  have HM:=hide M0
  have hr':¬ (c.queue:Int) ≤ (s.q.length:Int):=by omega
  clear hb M0
  go_quiet (fail)
  refine exit_at (fun W=>Below w.heap.size w W ∧ MsAt W w.heap.size m) ⟨below_drewN HB.out nq,HM.out⟩ ?_
  clear d1 d2 dk HB HM
  rintro W1 ⟨hb,M0⟩
  have d1:=(hb.cell (p:=⟨b,26,none⟩) hlt).trans c1
  obtain ⟨m0,m1,m2⟩:=M0.cells
  have hneW:b ≠ W1.heap.size:=by have:=hb.size; omega
  have hbW:b < W1.heap.size:=by have:=hb.size; omega
  have HB:=hide hb
  have HQ1:=hide (HV.out.keep (w':=W1) (fun g _ hg=>hb.block g hg))
  obtain ⟨i0,hi,hz0,hz1,hz2⟩:=info_parts Tryz.infoMsg
  clear hb M0
  go_wp2_with fail
  refine region_only (JoinR w F0 b 25 s m (Tks b 25)) ?_ ?_
  ·go_region_law (refine step_append_foot rfl (.tmp 42) (.tmp 44) 65 rfl 0 60 i0 _ 3 40 Tryz.underlying65 hi hz0 hz1 hz2 rfl (by decide) (.slice a s.q.length cap) s.q.length (mcells s.q) (by simp [Act.eval]) (World.ownsRow.alloc HQ1.out.1 _) ⟨W1.heap.size,0,none⟩ 1 1 (msgCells m) (by simp [Act.eval]) rfl (cells_new _ _ _) (by intro u hu; simp [msgCells] at hu; rcases hu with rfl | rfl | rfl <;> rfl) (by unfold maxLen; omega) (by omega) (Nat.zero_le _) ?_; intro v' w' hown' hgr' hbk'; obtain ⟨J1,J2,J3,_,J5⟩:=join_app HS.out (Below.drew (Below.allocN HB.out _)) c1 hgr' hown' hbk'; obtain ⟨a',cap',rfl⟩:=J3.form; have e1:=(J1 26).trans c1; have e2:=(J2 26).trans f1)
   all_goals (simp only [List.length_append,List.length_cons,List.length_nil,Nat.zero_add] at J3)
   all_goals (have jj:=join_set HS.out J1 J2 J3 J5)
   all_goals (exact ⟨⟨rfl,rfl⟩,jj.1,jj.2.1,jj.2.2.1,jj.2.2.2⟩)
  rintro a'' W2 ⟨htk,hst,hfr,hcl,hfz⟩
  obtain ⟨u,rfl⟩:=htk.use
  have e2:W2.cell? ⟨b,27,none⟩ = some (.int .i64 s.joined):=hst.joined
  have e3:W2.frozen? ⟨b,27,none⟩ = false:=hst.fz _
  have HST:=hide (hst.joined' (s.joined + 1))
  have HFR:=hide hfr
  have HCL:=hide hcl
  have HFZ:=hide hfz
  clear htk hst hfr hcl hfz d1 m0 m1 m2 f1 f2 c1 c2 k3
  go_wp2
  go_ret2
  refine ⟨rfl,HST.out,⟨HFR.out.os,HFR.out.tape,HFR.out.output,by simpa using HFR.out.size,fun k hk hn=>?_⟩,fun j hj=>?_,fun j=>?_⟩
  ·rw [Below.heap_setCell _ _ _ _ (fun e=>hn (Or.inl e))]
   exact HFR.out.block k hk hn
  ·rw [World.cell?_setCell_other _ _ _ _ (by simp only [ne_eq,Addr.mk.injEq,not_and]; omega)]
   exact HCL.out j (by omega)
  ·rw [World.frozen?_setCell]
   exact HFZ.out j
set_option maxRecDepth 1000000 in
theorem submit_station (b:Nat) (st:Int) (m:Msg) (w:World) (h0:¬ (st = 0 ∨ st = 1)) :
  Calls Tryz.prog 32 #[.pointer (some ⟨b,0,none⟩),.int .i64 st,msgV m] w fun e w'=>e = .returned (.tuple #[.int .i64 0,.int .i64 7]) ∧ Below w.heap.size w w':=by
 have HD:Hid (decide (st = 0 ∨ st = 1) = false):=by simp [Hid,h0]
 clear h0
 unfold msgV
 go_enter Tryz.func32,Tryz.ntmps32
 go_wp2_with fail
 refine (isStation_any st _).mono ?_
 rintro e w1 ⟨rfl,hw1⟩
 subst hw1
 rw [HD.out]
 go_wp2
 go_ret2
 exact ⟨rfl,(Below.refl _ _).alloc (Nat.le_refl _) _⟩
set_option maxRecDepth 1000000 in
theorem submit_head (b:Nat) (st:Int) (m:Msg) (w:World) (h0:st = 0 ∨ st = 1) (hh:Blk.headOk m.head = false) (hl:m.head.length ≤ 140737488352000) :
  Calls Tryz.prog 32 #[.pointer (some ⟨b,0,none⟩),.int .i64 st,msgV m] w fun e w'=>e = .returned (.tuple #[.int .i64 0,.int .i64 2]) ∧ Below w.heap.size w w':=by
 have HD:Hid (decide (st = 0 ∨ st = 1) = true):=by simp [Hid,h0]
 have HH:=hide hh
 have HHC:=hide (fun W=>isHead_any ⟨m.head.toArray⟩ W hl)
 clear h0 hh
 unfold msgV
 go_enter Tryz.func32,Tryz.ntmps32
 go_wp2_with fail
 refine (isStation_any st _).mono ?_
 rintro e w1 ⟨rfl,hw1⟩
 subst hw1
 rw [HD.out]
 go_wp2_with fail
 refine (HHC.out _).mono ?_
 rintro e w1 ⟨rfl,hw1⟩
 subst hw1
 rw [HH.out]
 go_wp2
 go_ret2
 exact ⟨rfl,(Below.refl _ _).alloc (Nat.le_refl _) _⟩
set_option maxRecDepth 1000000 in
theorem submit_text (b:Nat) (st:Int) (m:Msg) (w:World) (h0:st = 0 ∨ st = 1) (hh:Blk.headOk m.head = true) (ht:(decide (m.text.length ≤ 200) && (m.clear || !Blk.hasCtl m.text)) = false) (hl:m.text.length ≤ 140737488352000) :
  Calls Tryz.prog 32 #[.pointer (some ⟨b,0,none⟩),.int .i64 st,msgV m] w fun e w'=>e = .returned (.tuple #[.int .i64 0,.int .i64 4]) ∧ Below w.heap.size w w':=by
 have HD:Hid (decide (st = 0 ∨ st = 1) = true):=by simp [Hid,h0]
 have HH:=hide hh
 have HT:=hide ht
 have hhl:(⟨m.head.toArray⟩:ByteArray).size ≤ 140737488352000:=by have:=Blk.headOk_le hh; show m.head.length ≤ _; omega
 have HHC:=hide (fun W=>isHead_any ⟨m.head.toArray⟩ W hhl)
 have HTC:=hide (fun W=>isText_any ⟨m.text.toArray⟩ 200 m.clear W hl (by omega))
 clear h0 hh ht
 unfold msgV
 go_enter Tryz.func32,Tryz.ntmps32
 go_wp2_with fail
 refine (isStation_any st _).mono ?_
 rintro e w1 ⟨rfl,hw1⟩
 subst hw1
 rw [HD.out]
 go_wp2_with fail
 refine (HHC.out _).mono ?_
 rintro e w1 ⟨rfl,hw1⟩
 subst hw1
 rw [HH.out]
 go_wp2_with fail
 refine (HTC.out _).mono ?_
 rintro e w1 ⟨rfl,hw1⟩
 subst hw1
 rw [HT.out]
 go_wp2
 go_ret2
 exact ⟨rfl,(Below.refl _ _).alloc (Nat.le_refl _) _⟩
set_option maxRecDepth 1000000 in
theorem submit_full (F0:Nat → Prop) (b o:Nat) (s:PS) (c:Cfg) (st:Int) (m:Msg) (w:World) (h:StAt w F0 b o s) (hc:CfgL w b c) (hst:(st = 0 ∧ o = 10) ∨ (st = 1 ∧ o = 25)) (hm:MsgFit m) (hr:c.queue ≤ s.q.length) :
  Calls Tryz.prog 32 #[.pointer (some ⟨b,0,none⟩),.int .i64 st,msgV m] w fun e w'=>e = .returned (.tuple #[.int .i64 0,.int .i64 8]) ∧ Below w.heap.size w w':=by
 have hlt:=h.lt
 obtain ⟨v,c1,hv⟩:=h.que
 obtain ⟨a,cap,rfl⟩:=hv.form
 have k3:=hc.2.2.2.1
 have HH:Hid (Blk.headOk m.head = true):=hm.1
 have HT:Hid ((decide (m.text.length ≤ 200) && (m.clear || !Blk.hasCtl m.text)) = true):=by
  have h2:=hm.2.1
  rcases hm.2.2 with h3 | h3
  ·simp [Hid,h2,h3]
  ·simp [Hid,h2,h3]
 have hhl:(⟨m.head.toArray⟩:ByteArray).size ≤ 140737488352000:=by have:=Blk.headOk_le hm.1; show m.head.length ≤ _; omega
 have htl:(⟨m.text.toArray⟩:ByteArray).size ≤ 140737488352000:=by have:=hm.2.1; show m.text.length ≤ _; omega
 have HHC:=hide (fun W=>isHead_any ⟨m.head.toArray⟩ W hhl)
 have HTC:=hide (fun W=>isText_any ⟨m.text.toArray⟩ 200 m.clear W htl (by omega))
 have hr':(c.queue:Int) ≤ (s.q.length:Int):=by omega
 generalize s.q.length = L at *
 clear h hv hm hc hhl htl
 unfold msgV
 rcases hst with ⟨rfl,rfl⟩ | ⟨rfl,rfl⟩
 ·simp only [Nat.reduceAdd] at c1
  go_enter Tryz.func32,Tryz.ntmps32
  go_wp2_with fail
  refine (isStation_any 0 _).mono ?_
  rintro e w1 ⟨rfl,hw1⟩
  subst hw1
  go_wp2_with fail
  refine (HHC.out _).mono ?_
  rintro e w1 ⟨rfl,hw1⟩
  subst hw1
  rw [HH.out]
  go_wp2_with fail
  refine (HTC.out _).mono ?_
  rintro e w1 ⟨rfl,hw1⟩
  subst hw1
  rw [HT.out]
  go_wp2_with fail
  refine wp_at (fun W=>Below w.heap.size w W) ((Below.refl _ _).alloc (Nat.le_refl _) _) ?_
  intro W hb
  have d1:=(hb.cell (p:=⟨b,11,none⟩) hlt).trans c1
  have dk:=(hb.cell (p:=⟨b,3,none⟩) hlt).trans k3
  have HB:=hide hb
  clear hb
  go_quiet (fail)
  go_wp2
  go_ret2
  exact ⟨rfl,below_drewN HB.out _⟩
 ·simp only [Nat.reduceAdd] at c1
  go_enter Tryz.func32,Tryz.ntmps32
  go_wp2_with fail
  refine (isStation_any 1 _).mono ?_
  rintro e w1 ⟨rfl,hw1⟩
  subst hw1
  go_wp2_with fail
  refine (HHC.out _).mono ?_
  rintro e w1 ⟨rfl,hw1⟩
  subst hw1
  rw [HH.out]
  go_wp2_with fail
  refine (HTC.out _).mono ?_
  rintro e w1 ⟨rfl,hw1⟩
  subst hw1
  rw [HT.out]
  go_wp2_with fail
  refine wp_at (fun W=>Below w.heap.size w W) ((Below.refl _ _).alloc (Nat.le_refl _) _) ?_
  intro W hb
  have d1:=(hb.cell (p:=⟨b,26,none⟩) hlt).trans c1
  have dk:=(hb.cell (p:=⟨b,3,none⟩) hlt).trans k3
  have HB:=hide hb
  clear hb
  go_quiet (fail)
  go_wp2
  go_ret2
  exact ⟨rfl,below_drewN HB.out _⟩
end Go.Proofs.YtlbpjcphhocdkaaGreat
