/- The law's World: a step of a script. The law's World: a step: New. The law's World: a step on a line: seen. The law's World: a step: seen. The law's World: a step on a line: heard. The law's World: a step: heard. The .. -/
import Derived.Test.YtlbpjcphhocdkaaGreatQ48
import Derived.Test.YtlbpjcphhocdkaaGreatQ43
import Derived.Test.YtlbpjcphhocdkaaGreatQ42
import Derived.Laws.Rows
import Derived.Deep.MidRow
set_option maxRecDepth 1000000
set_option maxHeartbeats 16000000
namespace Go.Proofs.YtlbpjcphhocdkaaGreat
open Go.RowKit Go.Proofs.YtlbpjcphhocdkaaGreat.Mod Go.Proofs.YtlbpjcphhocdkaaGreat.Pst
def opMsg (o:LOp):Msg:=⟨o.s,o.t,o.f⟩
def MgAt (w:World) (g:Nat) (o:LOp):Prop:=w.heap[g]? = some (.cells #[.string ⟨o.s.toArray⟩,.string ⟨o.t.toArray⟩,.bool o.f] 60 (0,0))
theorem busy_l (F:Nat → Prop) (b:Nat) (x:Ln) (st:Int) (on:Bool) (w:World) (h:LineAt w F b x) :
  Calls Tryz.prog 35 #[.pointer (some ⟨b,0,none⟩),.int .i64 st,.bool on] w fun e w'=>e = .returned (.int .i64 (busyE st)) ∧ LineAt w' (Plus F w) b (busyL x st on) ∧ Fr F w w':=by
 have ho:=h.own
 refine (busy_line F b x st on w h).mono ?_
 rintro e w' ⟨rfl,h1,h2⟩
 exact ⟨rfl,h1.mono fun _=>Or.inl,h2.mono fun g e=>by rw [e]; exact ho⟩
theorem fault_l (F:Nat → Prop) (b:Nat) (x:Ln) (k p v:Int) (w:World) (h:LineAt w F b x) (hg:LGood x) :
  Calls Tryz.prog 37 #[.pointer (some ⟨b,0,none⟩),.int .i64 k,.int .i64 p,.int .i64 v] w fun e w'=>e = .returned (.int .i64 (faultE x k p v)) ∧ LineAt w' (Plus F w) b (faultL x k p v) ∧ Fr F w w':=by
 have ho:=h.own
 refine (fault_line F b x k p v w h hg).mono ?_
 rintro e w' ⟨rfl,h1,h2⟩
 exact ⟨rfl,h1.mono fun _=>Or.inl,h2.mono fun g e=>by rw [e]; exact ho⟩
/-- Both have done the same. -/
theorem Lent.same {w w1 w2:World} {A:Nat → Nat} {wb n m:Nat} {ps:List PA} {p:PA} {x x':Ln} {F G:Nat → Prop} (L:Lent w A wb ps n p x F G) (f1:Fr F w w1) (hl:LineAt w1 (Plus F w) p.xb x') (f2:Fr G w1 w2) (hd:DocAt w2 (Plus G w1) p.yb x') (hn:n ≤ m) (hf:LFit m x'):Nx A wb ps m w w2:=by
 obtain ⟨A',h1,h2,h3,_⟩:=L.back w1 w2 x' m (fun _=>False) f1 (hl.mono fun g k=>⟨k,id⟩) f2 hd (fun _ k=>k.elim) hn hf
 exact ⟨A',h1,h2,fun g hg z=>by rw [h3 g hg]; exact z⟩
/-- What the line's own call leaves of the rest. -/
theorem Lent.doc {w w1:World} {A:Nat → Nat} {wb n:Nat} {ps:List PA} {p:PA} {x:Ln} {F G:Nat → Prop} (L:Lent w A wb ps n p x F G) (f1:Fr F w w1):DocAt w1 G p.yb x ∧ PairAt w1 p.pb p.xb p.yb :=
 ⟨L.d.keep f1.size fun g hg hl=>f1.block g hl fun k=>L.fg g k hg,(f1.block _ L.lt L.fp).trans L.pr⟩
theorem infoOp:(Tryz.prog.info? 39).map (·.size) = some 19:=by kernel_rfl
/-- One box,and two. -/
theorem box_one (w:World) (a:Obj):(w.alloc a).heap[w.heap.size]? = some a ∧ Below w.heap.size w (w.alloc a):=⟨heap_alloc_new w a,Below.allocN (Below.refl _ _) _⟩
theorem box_two (w:World) (a b:Obj):((w.alloc a).alloc b).heap[w.heap.size]? = some a ∧ ((w.alloc a).alloc b).heap[w.heap.size + 1]? = some b ∧ Below w.heap.size w ((w.alloc a).alloc b):=by
 have hs:(w.alloc a).heap.size = w.heap.size + 1:=by simp
 refine ⟨(Below.heap_alloc _ _ _ (by rw [hs]; omega)).trans (heap_alloc_new w a),?_,Below.allocN (Below.allocN (Below.refl _ _) _) _⟩
 rw [← hs]
 exact heap_alloc_new _ _
theorem WAt.free {w:World} {A:Nat → Nat} {wb n:Nat} {ps:List PA} (h:WAt w A wb ps n) {g:Nat} (hg:w.heap.size ≤ g):A g = 0:=by
 rcases Nat.eq_zero_or_pos (A g) with z | z
 ·exact z
 ·have:=h.bnd g (by omega); omega
def Tol (wb g:Nat) (p:PA) (v7 v8 v9 v10 v11 v13 v14 v15 v16:Value) (a:Act):Prop:=a.defers = [] ∧ a.tmps = List.toArray (.pointer (some ⟨wb,0,none⟩)::.pointer (some ⟨p.pb,0,none⟩)::gd a 2::gd a 3::gd a 4::.pointer (some ⟨g,0,none⟩)::gd a 6::v7::v8::v9::v10::v11::gd a 12::v13::v14::v15::v16::gd a 17::gd a 18::gd a 19::gd a 20::gd a 21::gd a 22::gd a 23::gd a 24::gd a 25::gd a 26::gd a 27::gd a 28::gd a 29::gd a 30::gd a 31::gd a 32::gd a 33::gd a 34::gd a 35::gd a 36::gd a 37::gd a 38::gd a 39::gd a 40::gd a 41::gd a 42::gd a 43::gd a 44::gd a 45::gd a 46::gd a 47::gd a 48::gd a 49::gd a 50::gd a 51::gd a 52::gd a 53::gd a 54::gd a 55::gd a 56::gd a 57::gd a 58::gd a 59::gd a 60::gd a 61::gd a 62::gd a 63::gd a 64::gd a 65::gd a 66::gd a 67::gd a 68::gd a 69::gd a 70::gd a 71::gd a 72::gd a 73::gd a 74::gd a 75::gd a 76::gd a 77::gd a 78::gd a 79::gd a 80::gd a 81::gd a 82::gd a 83::gd a 84::gd a 85::gd a 86::gd a 87::gd a 88::gd a 89::gd a 90::gd a 91::gd a 92::gd a 93::gd a 94::gd a 95::gd a 96::gd a 97::gd a 98::gd a 99::gd a 100::gd a 101::gd a 102::gd a 103::gd a 104::gd a 105::gd a 106::gd a 107::gd a 108::gd a 109::gd a 110::gd a 111::gd a 112::gd a 113::gd a 114::gd a 115::gd a 116::gd a 117::gd a 118::gd a 119::gd a 120::gd a 121::gd a 122::gd a 123::gd a 124::gd a 125::gd a 126::gd a 127::gd a 128::gd a 129::[])
theorem Tol.use {wb g:Nat} {p:PA} {v7 v8 v9 v10 v11 v13 v14 v15 v16:Value} {a:Act} (h:Tol wb g p v7 v8 v9 v10 v11 v13 v14 v15 v16 a):∃ u:Nat → Value,a = { tmps:=List.toArray (.pointer (some ⟨wb,0,none⟩)::.pointer (some ⟨p.pb,0,none⟩)::u 2::u 3::u 4::.pointer (some ⟨g,0,none⟩)::u 6::v7::v8::v9::v10::v11::u 12::v13::v14::v15::v16::u 17::u 18::u 19::u 20::u 21::u 22::u 23::u 24::u 25::u 26::u 27::u 28::u 29::u 30::u 31::u 32::u 33::u 34::u 35::u 36::u 37::u 38::u 39::u 40::u 41::u 42::u 43::u 44::u 45::u 46::u 47::u 48::u 49::u 50::u 51::u 52::u 53::u 54::u 55::u 56::u 57::u 58::u 59::u 60::u 61::u 62::u 63::u 64::u 65::u 66::u 67::u 68::u 69::u 70::u 71::u 72::u 73::u 74::u 75::u 76::u 77::u 78::u 79::u 80::u 81::u 82::u 83::u 84::u 85::u 86::u 87::u 88::u 89::u 90::u 91::u 92::u 93::u 94::u 95::u 96::u 97::u 98::u 99::u 100::u 101::u 102::u 103::u 104::u 105::u 106::u 107::u 108::u 109::u 110::u 111::u 112::u 113::u 114::u 115::u 116::u 117::u 118::u 119::u 120::u 121::u 122::u 123::u 124::u 125::u 126::u 127::u 128::u 129::[]),defers:=[] }:=⟨fun i=>a.tmps.getD i undef,by obtain ⟨h1,h2⟩:=h; cases a; simp only at h1 h2; subst h1; exact congrArg (fun t=>({ tmps:=t,defers:=[] }:Act)) h2⟩
theorem step_new (wb:Nat) (A:Nat → Nat) (ps:List PA) (n:Nat) (o:LOp) (w:World) (h:WAt w A wb ps n) (hk:o.kind = 1) (hl:ps.length ≤ 1000000000) :
  Calls Tryz.prog 12 #[.pointer (some ⟨wb,0,none⟩),.agg (opCells o).toArray] w fun e w'=>e = .returned (.bool true) ∧ ∃ qs,qs.length ≤ ps.length + 1 ∧ Nx A wb qs (n + 128) w w':=by
 have d1:(o.kind == 1) = true:=by simp [hk]
 have HH:=hide h
 clear h hk
 unfold opCells
 go_enter Tryz.func12,Tryz.ntmps12
 go_wp2_with fail
 obtain ⟨_,hb0⟩:=box_one w (.cells (opCells o).toArray 39)
 unfold opCells at hb0
 generalize w.alloc _ = W0 at *
 have HB0:=hide hb0
 clear hb0
 refine (opened_w wb A ps n o.g0 o.g1 o.g2 o.g3 o.g4 o.g5 o.g6 o.g7 o.g8 o.g9 _ (HH.out.below HB0.out) hl).mono ?_
 rintro e w1 ⟨rfl,qs,hq,h1⟩
 have HK:=hide (And.intro hq ((Nx.pre HB0.out h1).le (Nat.le_add_right n 128)))
 clear hq h1
 go_wp2
 go_ret
 exact ⟨rfl,qs,HK.out⟩
theorem onLine_seen (wb:Nat) (A:Nat → Nat) (ps:List PA) (i:Nat) (p:PA) (n:Nat) (o:LOp) (w:World) (h:WAt w A wb ps n) (hp:ps[i]? = some p) (hk:o.kind = 2) :
  Calls Tryz.prog 19 #[.pointer (some ⟨wb,0,none⟩),.pointer (some ⟨p.pb,0,none⟩),.agg (opCells o).toArray] w fun e w'=>e = .returned (.bool true) ∧ Nx A wb ps n w w':=by
 have d2:(o.kind == 2) = true:=by simp [hk]
 have HH:=hide h
 have HP:=hide hp
 clear h hp hk
 unfold opCells
 go_enter Tryz.func19,Tryz.ntmps19
 go_wp2_with fail
 obtain ⟨_,hb0⟩:=box_one w (.cells (opCells o).toArray 39)
 unfold opCells at hb0
 generalize w.alloc _ = W0 at *
 have HB0:=hide hb0
 obtain ⟨x,F,G,L⟩:=(HH.out.below hb0).lend HP.out
 have HL:=hide L
 clear hb0 L
 refine (seen_line p x F G o.a _ HL.out.pr HL.out.l HL.out.d).mono ?_
 rintro e w1 ⟨rfl,hb1⟩
 have HB1:=hide (below_step HB0.out hb1)
 clear hb1
 go_wp2
 go_ret
 exact ⟨rfl,HH.out.nx HB1.out⟩
theorem step_seen (wb:Nat) (A:Nat → Nat) (ps:List PA) (n:Nat) (o:LOp) (w:World) (h:WAt w A wb ps n) (hk:o.kind = 2) (hl:ps.length ≤ 1000000000) (hln:-9223372036854775808 ≤ o.line ∧ o.line ≤ 9223372036854775807) :
  Calls Tryz.prog 12 #[.pointer (some ⟨wb,0,none⟩),.agg (opCells o).toArray] w fun e w'=>e = .returned (.bool true) ∧ ∃ qs,qs.length ≤ ps.length + 1 ∧ Nx A wb qs (n + 128) w w':=by
 have d1:(o.kind == 1) = false:=by simp [hk]
 have d2:(o.kind == 2) = true:=by simp [hk]
 obtain ⟨vl,vk,xs,ks,hw,hf,hks⟩:=h
 obtain ⟨al,cl,rfl⟩:=hw.rp.form
 have hlt:=hw.lt
 have hne:wb ≠ w.heap.size:=by omega
 have c0:w.cell? ⟨wb,0,none⟩ = some (.slice al ps.length cl):=(cells_at hw.blk).1 0
 have HH:Hid (WAt w A wb ps n):=⟨_,vk,xs,ks,hw,hf,hks⟩
 have HWC:=hide hw
 have HLN:=hide hln
 clear hw hf hks hk hln
 rcases Nat.eq_zero_or_pos ps.length with z | z
 ·have i0:((ps.length:Int) == 0) = true:=by simp [z]
  clear z
  unfold opCells
  go_enter Tryz.func12,Tryz.ntmps12
  go_wp2
  go_ret
  exact ⟨rfl,ps,Nat.le_succ _,(HH.out.le (Nat.le_add_right n 128)).nx (Below.allocN (Below.refl _ _) _)⟩
 ·have i0:((ps.length:Int) == 0) = false:=by simp; intro e; rw [e] at z; simp at z
  obtain ⟨K,hK,hKl⟩:∃ K:Nat,pickL o.line ps.length = (K:Int) ∧ K < ps.length:=by
   obtain ⟨a,b⟩:=pickL_lt o.line ps.length (by omega)
   exact ⟨(pickL o.line ps.length).toNat,(Int.toNat_of_nonneg a).symm,by omega⟩
  obtain ⟨p,hp⟩:∃ p,ps[K]? = some p:=⟨_,List.getElem?_eq_getElem hKl⟩
  have HPk:Hid (∀ W,Calls Tryz.prog 18 #[.int .i64 o.line,.int .i64 ps.length] W fun e w'=>e = .returned (.int .i64 (K:Int)) ∧ w' = W):=fun W=>by
   have:=pickL_any o.line ps.length W HLN.out.1 HLN.out.2 (by omega) (by omega)
   rw [hK] at this
   exact this
  obtain ⟨lb,cap',e,lbl,r0⟩:=HWC.out.rp.cell hp
  simp only [Value.slice.injEq,true_and] at e
  obtain ⟨rfl,rfl⟩:=e
  simp only [pSl] at r0
  have HP:=hide hp
  have hneb:lb ≠ w.heap.size:=by omega
  clear hp hK
  unfold opCells
  go_enter Tryz.func12,Tryz.ntmps12
  go_wp2_with fail
  obtain ⟨x0,hb0⟩:=box_one w (.cells (opCells o).toArray 39)
  unfold opCells at x0 hb0
  generalize w.alloc _ = W0 at *
  have X0:OpAt W0 w.heap.size o:=x0
  have HB0:=hide hb0
  have c0:W0.cell? ⟨wb,0,none⟩ = some (.slice (some ⟨lb,0,none⟩) ps.length cl):=(hb0.cell (p:=⟨wb,0,none⟩) hlt).trans c0
  have r0:W0.cell? ⟨lb,K,none⟩ = some (.pointer (some ⟨p.pb,0,none⟩)):=(hb0.cell (p:=⟨lb,K,none⟩) lbl).trans r0
  have o1:W0.cell? ⟨w.heap.size,1,none⟩ = some (.int .i64 o.line):=X0.cell 1
  have HX:=hide x0
  have hKi:(K:Int) < (ps.length:Int):=by omega
  clear x0 hb0 X0 z
  go_quiet (exact Calls.quiet_of_same (HPk.out _))
  iterate 10 go_step
  refine wpList_load_row rfl 39 (.tmp 3) rfl w.heap.size rfl 39 (opCells o).toArray (0,0) _ HX.out Tryz.underlying39 rfl (by rw [infoOp]; rfl) ?_
  go_wp2_with fail
  have HB1:Hid (Below w.heap.size w (W0.drewN nq)):=below_drewN HB0.out nq
  refine (onLine_seen wb A ps K p n o _ (HH.out.below HB1.out) HP.out (by simpa using d2)).mono ?_
  rintro e w1 ⟨rfl,h1⟩
  have HK:=hide ((Nx.pre HB1.out h1).le (show n ≤ n + 128 by omega))
  clear h1
  go_wp2
  go_ret
  exact ⟨rfl,ps,Nat.le_succ _,HK.out⟩
theorem onLine_heard (wb:Nat) (A:Nat → Nat) (ps:List PA) (i:Nat) (p:PA) (n:Nat) (o:LOp) (w:World) (h:WAt w A wb ps n) (hp:ps[i]? = some p) (hk:o.kind = 11) :
  Calls Tryz.prog 19 #[.pointer (some ⟨wb,0,none⟩),.pointer (some ⟨p.pb,0,none⟩),.agg (opCells o).toArray] w fun e w'=>e = .returned (.bool true) ∧ Nx A wb ps n w w':=by
 have d2:(o.kind == 2) = false:=by simp [hk]
 have d11:(o.kind == 11) = true:=by simp [hk]
 have HH:=hide h
 have HP:=hide hp
 clear h hp hk
 unfold opCells
 go_enter Tryz.func19,Tryz.ntmps19
 go_wp2_with fail
 obtain ⟨_,hb0⟩:=box_one w (.cells (opCells o).toArray 39)
 unfold opCells at hb0
 generalize w.alloc _ = W0 at *
 have HB0:=hide hb0
 obtain ⟨x,F,G,L⟩:=(HH.out.below hb0).lend HP.out
 have HL:=hide L
 clear hb0 L
 refine (heard_line p x F G o.a _ HL.out.pr HL.out.l HL.out.d).mono ?_
 rintro e w1 ⟨rfl,hb1⟩
 have HB1:=hide (below_step HB0.out hb1)
 clear hb1
 go_wp2
 go_ret
 exact ⟨rfl,HH.out.nx HB1.out⟩
theorem step_heard (wb:Nat) (A:Nat → Nat) (ps:List PA) (n:Nat) (o:LOp) (w:World) (h:WAt w A wb ps n) (hk:o.kind = 11) (hl:ps.length ≤ 1000000000) (hln:-9223372036854775808 ≤ o.line ∧ o.line ≤ 9223372036854775807) :
  Calls Tryz.prog 12 #[.pointer (some ⟨wb,0,none⟩),.agg (opCells o).toArray] w fun e w'=>e = .returned (.bool true) ∧ ∃ qs,qs.length ≤ ps.length + 1 ∧ Nx A wb qs (n + 128) w w':=by
 have d1:(o.kind == 1) = false:=by simp [hk]
 have d2:(o.kind == 2) = false:=by simp [hk]
 have d11:(o.kind == 11) = true:=by simp [hk]
 obtain ⟨vl,vk,xs,ks,hw,hf,hks⟩:=h
 obtain ⟨al,cl,rfl⟩:=hw.rp.form
 have hlt:=hw.lt
 have hne:wb ≠ w.heap.size:=by omega
 have c0:w.cell? ⟨wb,0,none⟩ = some (.slice al ps.length cl):=(cells_at hw.blk).1 0
 have HH:Hid (WAt w A wb ps n):=⟨_,vk,xs,ks,hw,hf,hks⟩
 have HWC:=hide hw
 have HLN:=hide hln
 clear hw hf hks hk hln
 rcases Nat.eq_zero_or_pos ps.length with z | z
 ·have i0:((ps.length:Int) == 0) = true:=by simp [z]
  clear z
  unfold opCells
  go_enter Tryz.func12,Tryz.ntmps12
  go_wp2
  go_ret
  exact ⟨rfl,ps,Nat.le_succ _,(HH.out.le (Nat.le_add_right n 128)).nx (Below.allocN (Below.refl _ _) _)⟩
 ·have i0:((ps.length:Int) == 0) = false:=by simp; intro e; rw [e] at z; simp at z
  obtain ⟨K,hK,hKl⟩:∃ K:Nat,pickL o.line ps.length = (K:Int) ∧ K < ps.length:=by
   obtain ⟨a,b⟩:=pickL_lt o.line ps.length (by omega)
   exact ⟨(pickL o.line ps.length).toNat,(Int.toNat_of_nonneg a).symm,by omega⟩
  obtain ⟨p,hp⟩:∃ p,ps[K]? = some p:=⟨_,List.getElem?_eq_getElem hKl⟩
  have HPk:Hid (∀ W,Calls Tryz.prog 18 #[.int .i64 o.line,.int .i64 ps.length] W fun e w'=>e = .returned (.int .i64 (K:Int)) ∧ w' = W):=fun W=>by
   have:=pickL_any o.line ps.length W HLN.out.1 HLN.out.2 (by omega) (by omega)
   rw [hK] at this
   exact this
  obtain ⟨lb,cap',e,lbl,r0⟩:=HWC.out.rp.cell hp
  simp only [Value.slice.injEq,true_and] at e
  obtain ⟨rfl,rfl⟩:=e
  simp only [pSl] at r0
  have HP:=hide hp
  have hneb:lb ≠ w.heap.size:=by omega
  clear hp hK
  unfold opCells
  go_enter Tryz.func12,Tryz.ntmps12
  go_wp2_with fail
  obtain ⟨x0,hb0⟩:=box_one w (.cells (opCells o).toArray 39)
  unfold opCells at x0 hb0
  generalize w.alloc _ = W0 at *
  have X0:OpAt W0 w.heap.size o:=x0
  have HB0:=hide hb0
  have c0:W0.cell? ⟨wb,0,none⟩ = some (.slice (some ⟨lb,0,none⟩) ps.length cl):=(hb0.cell (p:=⟨wb,0,none⟩) hlt).trans c0
  have r0:W0.cell? ⟨lb,K,none⟩ = some (.pointer (some ⟨p.pb,0,none⟩)):=(hb0.cell (p:=⟨lb,K,none⟩) lbl).trans r0
  have o1:W0.cell? ⟨w.heap.size,1,none⟩ = some (.int .i64 o.line):=X0.cell 1
  have HX:=hide x0
  have hKi:(K:Int) < (ps.length:Int):=by omega
  clear x0 hb0 X0 z
  go_quiet (exact Calls.quiet_of_same (HPk.out _))
  iterate 10 go_step
  refine wpList_load_row rfl 39 (.tmp 3) rfl w.heap.size rfl 39 (opCells o).toArray (0,0) _ HX.out Tryz.underlying39 rfl (by rw [infoOp]; rfl) ?_
  go_wp2_with fail
  have HB1:Hid (Below w.heap.size w (W0.drewN nq)):=below_drewN HB0.out nq
  refine (onLine_heard wb A ps K p n o _ (HH.out.below HB1.out) HP.out (by simpa using d11)).mono ?_
  rintro e w1 ⟨rfl,h1⟩
  have HK:=hide ((Nx.pre HB1.out h1).le (show n ≤ n + 128 by omega))
  clear h1
  go_wp2
  go_ret
  exact ⟨rfl,ps,Nat.le_succ _,HK.out⟩
theorem onLine_submit (wb:Nat) (A:Nat → Nat) (ps:List PA) (i:Nat) (p:PA) (n:Nat) (o:LOp) (w:World) (h:WAt w A wb ps n) (hp:ps[i]? = some p) (hk:o.kind = 3) (hs:o.s.length ≤ 140737488352000) (ht:o.t.length ≤ 140737488352000) (hn:n ≤ 900000000) :
  Calls Tryz.prog 19 #[.pointer (some ⟨wb,0,none⟩),.pointer (some ⟨p.pb,0,none⟩),.agg (opCells o).toArray] w fun e w'=>e = .returned (.bool true) ∧ Nx A wb ps (n + 1) w w':=by
 have d2:(o.kind == 2) = false:=by simp [hk]
 have d11:(o.kind == 11) = false:=by simp [hk]
 have d3:(o.kind == 3) = true:=by simp [hk]
 have HH:=hide h
 have HP:=hide hp
 clear h hp hk
 unfold opCells
 go_enter Tryz.func19,Tryz.ntmps19
 go_wp2_with fail
 obtain ⟨x0,y0,hb0⟩:=box_two w (.cells (opCells o).toArray 39) (.cells #[.string ⟨o.s.toArray⟩,.string ⟨o.t.toArray⟩,.bool o.f] 60)
 unfold opCells at x0 hb0
 unfold opCells at y0
 generalize (w.alloc _).alloc _ = W0 at *
 have HB0:=hide hb0
 have X0:OpAt W0 w.heap.size o:=x0
 have lg:=lt_of_block X0
 have Y0:MgAt W0 (w.heap.size + 1) o:=y0
 have lm:=lt_of_block Y0
 have o2:W0.cell? ⟨w.heap.size,2,none⟩ = some (.int .i64 o.a):=X0.cell 2
 have m0:W0.cell? ⟨w.heap.size + 1,0,none⟩ = some (.string ⟨o.s.toArray⟩):=(cells_at Y0).1 0
 have m1:W0.cell? ⟨w.heap.size + 1,1,none⟩ = some (.string ⟨o.t.toArray⟩):=(cells_at Y0).1 1
 have m2:W0.cell? ⟨w.heap.size + 1,2,none⟩ = some (.bool o.f):=(cells_at Y0).1 2
 obtain ⟨x,F,G,L⟩:=(HH.out.below hb0).lend HP.out
 have c0:W0.cell? ⟨p.pb,0,none⟩ = some (.pointer (some ⟨p.xb,0,none⟩)):=(cells_at L.pr).1 0
 have ag:A w.heap.size = 0:=HH.out.free (Nat.le_refl _)
 have am:A (w.heap.size + 1) = 0:=HH.out.free (Nat.le_succ _)
 have HNF:Hid (¬ F w.heap.size):=fun k=>L.fa _ k ag
 have HNG:Hid (¬ G w.heap.size):=fun k=>L.ga _ k ag
 have HNFm:Hid (¬ F (w.heap.size + 1)):=fun k=>L.fa _ k am
 have HNGm:Hid (¬ G (w.heap.size + 1)):=fun k=>L.ga _ k am
 have hpl:=L.lt
 have HL:=hide L
 clear hb0 x0 X0 L ag y0 Y0 am
 refine region_only (fun a W=>(∃ v10 v11 v13 v14 v15 v16,Tol wb w.heap.size p (.pointer (some ⟨w.heap.size + 1,0,none⟩)) (.int .i64 (submitN x o.a (opMsg o))) (.int .i64 (submitE x o.a (opMsg o))) v10 v11 v13 v14 v15 v16 a) ∧ LineAt W (Plus F W0) p.xb (submitL x o.a (opMsg o)) ∧ Fr F W0 W) ?_ ?_
 ·go_region_held3 (fun W=>W.cell? ⟨p.pb,0,none⟩ = some (.pointer (some ⟨p.xb,0,none⟩)) ∧ W.cell? ⟨w.heap.size,2,none⟩ = some (.int .i64 o.a) ∧ W.cell? ⟨w.heap.size + 1,0,none⟩ = some (.string ⟨o.s.toArray⟩) ∧ W.cell? ⟨w.heap.size + 1,1,none⟩ = some (.string ⟨o.t.toArray⟩) ∧ W.cell? ⟨w.heap.size + 1,2,none⟩ = some (.bool o.f)) ((first | exact ⟨c0,o2,m0,m1,m2⟩ | exact ⟨(World.cell?_of_block (hf4.block _ hpl HL.out.fp)).trans c0,(World.cell?_of_block (hf4.block _ lg HNF.out)).trans o2,(World.cell?_of_block (hf4.block _ lm HNFm.out)).trans m0,(World.cell?_of_block (hf4.block _ lm HNFm.out)).trans m1,(World.cell?_of_block (hf4.block _ lm HNFm.out)).trans m2⟩))
   ((go_at_call 32; refine (submit_line F p.xb x o.a (opMsg o) _ (HL.out.l.below (Below.drew (Below.refl _ _))) HL.out.fit.g (by have:=HL.out.fit.c.a; omega) (by have:=HL.out.fit.c.b; omega) hs ht).mono ?_; rintro e w4 ⟨rfl,h4,hf4⟩))
  all_goals exact ⟨⟨_,_,_,_,_,_,rfl,rfl⟩,h4,Fr.mk hf4.os hf4.tape hf4.output hf4.size hf4.block⟩
 rintro a1 W1 ⟨⟨v10,v11,v13,v14,v15,v16,htk⟩,h1,f1⟩
 obtain ⟨u,rfl⟩:=htk.use
 obtain ⟨d1,p1⟩:=HL.out.doc f1
 have e1:W1.cell? ⟨p.pb,1,none⟩ = some (.pointer (some ⟨p.yb,0,none⟩)):=(cells_at p1).1 1
 have hpl1:=lt_of_block p1
 have lg1:=Nat.lt_of_lt_of_le lg f1.size
 have lm1:=Nat.lt_of_lt_of_le lm f1.size
 have o21:=(World.cell?_of_block (f1.block _ lg HNF.out)).trans o2
 have m01:=(World.cell?_of_block (f1.block _ lm HNFm.out)).trans m0
 have m11:=(World.cell?_of_block (f1.block _ lm HNFm.out)).trans m1
 have m21:=(World.cell?_of_block (f1.block _ lm HNFm.out)).trans m2
 have H1:=hide h1
 have F1:=hide f1
 have D1:=hide d1
 clear htk h1 f1 d1 p1 c0 o2 m0 m1 m2
 go_wp2_with fail
 refine region_only (fun a W=>(∃ v13 v14 v15 v16,Tol wb w.heap.size p (.pointer (some ⟨w.heap.size + 1,0,none⟩)) (.int .i64 (submitN x o.a (opMsg o))) (.int .i64 (submitE x o.a (opMsg o))) (.int .i64 (submitN x o.a (opMsg o))) (.int .i64 (submitE x o.a (opMsg o))) v13 v14 v15 v16 a) ∧ DocAt W (Plus G W1) p.yb (submitL x o.a (opMsg o)) ∧ Fr G W1 W) ?_ ?_
 ·go_region_held3 (fun W=>W.cell? ⟨p.pb,1,none⟩ = some (.pointer (some ⟨p.yb,0,none⟩)) ∧ W.cell? ⟨w.heap.size,2,none⟩ = some (.int .i64 o.a) ∧ W.cell? ⟨w.heap.size + 1,0,none⟩ = some (.string ⟨o.s.toArray⟩) ∧ W.cell? ⟨w.heap.size + 1,1,none⟩ = some (.string ⟨o.t.toArray⟩) ∧ W.cell? ⟨w.heap.size + 1,2,none⟩ = some (.bool o.f)) ((first | exact ⟨e1,o21,m01,m11,m21⟩ | exact ⟨(World.cell?_of_block (hf4.block _ hpl1 HL.out.gp)).trans e1,(World.cell?_of_block (hf4.block _ lg1 HNG.out)).trans o21,(World.cell?_of_block (hf4.block _ lm1 HNGm.out)).trans m01,(World.cell?_of_block (hf4.block _ lm1 HNGm.out)).trans m11,(World.cell?_of_block (hf4.block _ lm1 HNGm.out)).trans m21⟩))
   ((go_at_call 33; refine (rsubmit_line G p.yb x o.a (opMsg o) _ (D1.out.below (Below.drew (Below.refl _ _))) HL.out.fit.g (by have:=HL.out.fit.c.a; omega) (by have:=HL.out.fit.c.b; omega) hs ht).mono ?_; rintro e w4 ⟨rfl,h4,hf4⟩))
  all_goals exact ⟨⟨_,_,_,_,rfl,rfl⟩,h4,Fr.mk hf4.os hf4.tape hf4.output hf4.size hf4.block⟩
 rintro a2 W2 ⟨⟨v13,v14,v15,v16,htk⟩,h2,f2⟩
 obtain ⟨u,rfl⟩:=htk.use
 have HK:Hid (Nx A wb ps (n + 1) w W2):=Nx.pre HB0.out (HL.out.same F1.out H1.out f2 h2 (Nat.le_succ n) (HL.out.fit.submit o.a (opMsg o)))
 clear htk h2 f2 e1 o21 m01 m11 m21
 generalize hN:(submitN x o.a (opMsg o):Int) = N
 generalize hE:submitE x o.a (opMsg o) = E
 go_wp2
 go_ret
 exact ⟨by simp,HK.out⟩
theorem step_submit (wb:Nat) (A:Nat → Nat) (ps:List PA) (n:Nat) (o:LOp) (w:World) (h:WAt w A wb ps n) (hk:o.kind = 3) (hl:ps.length ≤ 1000000000) (hln:-9223372036854775808 ≤ o.line ∧ o.line ≤ 9223372036854775807) (hs:o.s.length ≤ 140737488352000) (ht:o.t.length ≤ 140737488352000) (hn:n ≤ 900000000) :
  Calls Tryz.prog 12 #[.pointer (some ⟨wb,0,none⟩),.agg (opCells o).toArray] w fun e w'=>e = .returned (.bool true) ∧ ∃ qs,qs.length ≤ ps.length + 1 ∧ Nx A wb qs (n + 128) w w':=by
 have d1:(o.kind == 1) = false:=by simp [hk]
 have d2:(o.kind == 2) = false:=by simp [hk]
 have d11:(o.kind == 11) = false:=by simp [hk]
 have d3:(o.kind == 3) = true:=by simp [hk]
 obtain ⟨vl,vk,xs,ks,hw,hf,hks⟩:=h
 obtain ⟨al,cl,rfl⟩:=hw.rp.form
 have hlt:=hw.lt
 have hne:wb ≠ w.heap.size:=by omega
 have c0:w.cell? ⟨wb,0,none⟩ = some (.slice al ps.length cl):=(cells_at hw.blk).1 0
 have HH:Hid (WAt w A wb ps n):=⟨_,vk,xs,ks,hw,hf,hks⟩
 have HWC:=hide hw
 have HLN:=hide hln
 have HS:=hide hs
 have HT:=hide ht
 clear hs ht
 clear hw hf hks hk hln
 rcases Nat.eq_zero_or_pos ps.length with z | z
 ·have i0:((ps.length:Int) == 0) = true:=by simp [z]
  clear z
  unfold opCells
  go_enter Tryz.func12,Tryz.ntmps12
  go_wp2
  go_ret
  exact ⟨rfl,ps,Nat.le_succ _,(HH.out.le (Nat.le_add_right n 128)).nx (Below.allocN (Below.refl _ _) _)⟩
 ·have i0:((ps.length:Int) == 0) = false:=by simp; intro e; rw [e] at z; simp at z
  obtain ⟨K,hK,hKl⟩:∃ K:Nat,pickL o.line ps.length = (K:Int) ∧ K < ps.length:=by
   obtain ⟨a,b⟩:=pickL_lt o.line ps.length (by omega)
   exact ⟨(pickL o.line ps.length).toNat,(Int.toNat_of_nonneg a).symm,by omega⟩
  obtain ⟨p,hp⟩:∃ p,ps[K]? = some p:=⟨_,List.getElem?_eq_getElem hKl⟩
  have HPk:Hid (∀ W,Calls Tryz.prog 18 #[.int .i64 o.line,.int .i64 ps.length] W fun e w'=>e = .returned (.int .i64 (K:Int)) ∧ w' = W):=fun W=>by
   have:=pickL_any o.line ps.length W HLN.out.1 HLN.out.2 (by omega) (by omega)
   rw [hK] at this
   exact this
  obtain ⟨lb,cap',e,lbl,r0⟩:=HWC.out.rp.cell hp
  simp only [Value.slice.injEq,true_and] at e
  obtain ⟨rfl,rfl⟩:=e
  simp only [pSl] at r0
  have HP:=hide hp
  have hneb:lb ≠ w.heap.size:=by omega
  clear hp hK
  unfold opCells
  go_enter Tryz.func12,Tryz.ntmps12
  go_wp2_with fail
  obtain ⟨x0,hb0⟩:=box_one w (.cells (opCells o).toArray 39)
  unfold opCells at x0 hb0
  generalize w.alloc _ = W0 at *
  have X0:OpAt W0 w.heap.size o:=x0
  have HB0:=hide hb0
  have c0:W0.cell? ⟨wb,0,none⟩ = some (.slice (some ⟨lb,0,none⟩) ps.length cl):=(hb0.cell (p:=⟨wb,0,none⟩) hlt).trans c0
  have r0:W0.cell? ⟨lb,K,none⟩ = some (.pointer (some ⟨p.pb,0,none⟩)):=(hb0.cell (p:=⟨lb,K,none⟩) lbl).trans r0
  have o1:W0.cell? ⟨w.heap.size,1,none⟩ = some (.int .i64 o.line):=X0.cell 1
  have HX:=hide x0
  have hKi:(K:Int) < (ps.length:Int):=by omega
  clear x0 hb0 X0 z
  go_quiet (exact Calls.quiet_of_same (HPk.out _))
  iterate 10 go_step
  refine wpList_load_row rfl 39 (.tmp 3) rfl w.heap.size rfl 39 (opCells o).toArray (0,0) _ HX.out Tryz.underlying39 rfl (by rw [infoOp]; rfl) ?_
  go_wp2_with fail
  have HB1:Hid (Below w.heap.size w (W0.drewN nq)):=below_drewN HB0.out nq
  refine (onLine_submit wb A ps K p n o _ (HH.out.below HB1.out) HP.out (by simpa using d3) HS.out HT.out hn).mono ?_
  rintro e w1 ⟨rfl,h1⟩
  have HK:=hide ((Nx.pre HB1.out h1).le (show (n + 1) ≤ n + 128 by omega))
  clear h1
  go_wp2
  go_ret
  exact ⟨rfl,ps,Nat.le_succ _,HK.out⟩
theorem onLine_tick (wb:Nat) (A:Nat → Nat) (ps:List PA) (i:Nat) (p:PA) (n:Nat) (o:LOp) (w:World) (h:WAt w A wb ps n) (hp:ps[i]? = some p) (hk:o.kind = 4) (ha:-9223372036854775808 ≤ o.a ∧ o.a ≤ 9223372036854775807) (hn:n ≤ 900000000) :
  Calls Tryz.prog 19 #[.pointer (some ⟨wb,0,none⟩),.pointer (some ⟨p.pb,0,none⟩),.agg (opCells o).toArray] w fun e w'=>e = .returned (.bool true) ∧ Nx A wb ps (n + 128) w w':=by
 have d2:(o.kind == 2) = false:=by simp [hk]
 have d11:(o.kind == 11) = false:=by simp [hk]
 have d3:(o.kind == 3) = false:=by simp [hk]
 have d4:(o.kind == 4) = true:=by simp [hk]
 have HH:=hide h
 have HP:=hide hp
 have HA:=hide ha
 clear h hp hk ha
 unfold opCells
 go_enter Tryz.func19,Tryz.ntmps19
 go_wp2_with fail
 obtain ⟨x0,hb0⟩:=box_one w (.cells (opCells o).toArray 39)
 unfold opCells at x0 hb0
 generalize w.alloc _ = W0 at *
 have HB0:=hide hb0
 have X0:OpAt W0 w.heap.size o:=x0
 have o7:W0.cell? ⟨w.heap.size,7,none⟩ = some (.bool o.f):=X0.cell 7
 clear hb0 x0 X0
 refine (pickL_nat o.a 64 _ HA.out.1 HA.out.2 (by omega) (by omega)).mono ?_
 rintro e w1 ⟨k,rfl,hk,hw1⟩
 obtain rfl:=hw1.symm
 clear hw1
 go_wp2_with fail
 rw [show ((k:Int) + 1) = ((k + 1:Nat):Int) from rfl]
 refine (ticked_w wb A ps i p n (k + 1) o.f _ (HH.out.below HB0.out) HP.out (by omega) hn).mono ?_
 rintro e w2 ⟨rfl,h2⟩
 have HK:=hide ((Nx.pre HB0.out h2).le (show n + 2 * (k + 1) ≤ n + 128 by omega))
 clear h2
 go_wp2
 go_ret
 exact ⟨rfl,HK.out⟩
end Go.Proofs.YtlbpjcphhocdkaaGreat
