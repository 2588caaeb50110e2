/- The law's World: a step: Encode. The law's World: a step: reads. The law's script: every step of it. The law's script, played. The laws Turns, Faults and All, walked. -/
import Derived.Test.YtlbpjcphhocdkaaGreatQ49
import Derived.Test.YtlbpjcphhocdkaaGreatQ41
import Derived.Test.YtlbpjcphhocdkaaGreatQ42
import Derived.Test.YtlbpjcphhocdkaaGreatQ50
import Derived.Test.YtlbpjcphhocdkaaGreatQ46
set_option maxRecDepth 1000000
set_option maxHeartbeats 16000000
namespace Go.Proofs.YtlbpjcphhocdkaaGreat
open Go.RowKit Go.Proofs.YtlbpjcphhocdkaaGreat.Mod Go.Proofs.YtlbpjcphhocdkaaGreat.Pst
theorem step_encode (wb:Nat) (A:Nat → Nat) (ps:List PA) (n:Nat) (o:LOp) (w:World) (h:WAt w A wb ps n) (hk:o.kind = 9) (hs:o.s.length ≤ 1048576) (hp:∀ s ∈ o.pl,s.size ≤ 1048576) (hpl:o.pl.length ≤ 1048576) (ht:Texts w o.pa o.pl) :
  Calls Tryz.prog 12 #[.pointer (some ⟨wb,0,none⟩),.agg (opCells o).toArray] w fun e w'=>e = .returned (.bool true) ∧ ∃ qs,qs.length ≤ ps.length + 1 ∧ Nx A wb qs (n + 128) w w':=by
 have d1:(o.kind == 1) = false:=by simp [hk]
 have d2:(o.kind == 2) = false:=by simp [hk]
 have d11:(o.kind == 11) = false:=by simp [hk]
 have d3:(o.kind == 3) = false:=by simp [hk]
 have d4:(o.kind == 4) = false:=by simp [hk]
 have d5:(o.kind == 5) = false:=by simp [hk]
 have d6:(o.kind == 6) = false:=by simp [hk]
 have d7:(o.kind == 7) = false:=by simp [hk]
 have d8:(o.kind == 8) = false:=by simp [hk]
 have d9:(o.kind == 9) = true:=by simp [hk]
 have HS:=hide hs
 have HPp:=hide hp
 have HT:=hide ht
 clear hs hp ht
 have HH:=hide h
 clear h hk
 unfold opCells
 go_enter Tryz.func12,Tryz.ntmps12
 go_wp2_with fail
 have HB0:Hid (∀ a b,Below w.heap.size w ((w.alloc a).alloc b)):=fun a b=>Below.allocN (Below.allocN (Below.refl _ _) a) b
 refine (encodes_walk ⟨o.s.toArray⟩ o.pa o.pl o.pc o.f _ o.a _ (by have:=HS.out; simp [ByteArray.size]; omega) (fun s hs=>by have:=HPp.out s hs; omega) (by omega) (HT.out.below (HB0.out _ _))).mono ?_
 rintro e w1 ⟨rfl,hb1⟩
 have HB1:=hide (below_step (HB0.out _ _) hb1)
 clear hb1
 go_wp2
 go_ret
 exact ⟨rfl,ps,Nat.le_succ _,(HH.out.le (Nat.le_add_right n 128)).nx HB1.out⟩
theorem step_reads (wb:Nat) (A:Nat → Nat) (ps:List PA) (n:Nat) (o:LOp) (w:World) (h:WAt w A wb ps n) (hk:o.kind = 10) (hs:o.s.length ≤ 1048576) :
  Calls Tryz.prog 12 #[.pointer (some ⟨wb,0,none⟩),.agg (opCells o).toArray] w fun e w'=>e = .returned (.bool true) ∧ ∃ qs,qs.length ≤ ps.length + 1 ∧ Nx A wb qs (n + 128) w w':=by
 have d1:(o.kind == 1) = false:=by simp [hk]
 have d2:(o.kind == 2) = false:=by simp [hk]
 have d11:(o.kind == 11) = false:=by simp [hk]
 have d3:(o.kind == 3) = false:=by simp [hk]
 have d4:(o.kind == 4) = false:=by simp [hk]
 have d5:(o.kind == 5) = false:=by simp [hk]
 have d6:(o.kind == 6) = false:=by simp [hk]
 have d7:(o.kind == 7) = false:=by simp [hk]
 have d8:(o.kind == 8) = false:=by simp [hk]
 have d9:(o.kind == 9) = false:=by simp [hk]
 have d10:(o.kind == 10) = true:=by simp [hk]
 have HS:=hide hs
 clear hs
 have HH:=hide h
 clear h hk
 unfold opCells
 go_enter Tryz.func12,Tryz.ntmps12
 go_wp2_with fail
 obtain ⟨x0,hb0⟩:=box_one w (.cells (opCells o).toArray 39)
 unfold opCells at x0 hb0
 generalize w.alloc _ = W0 at *
 have X0:OpAt W0 w.heap.size o:=x0
 have HB0:=hide hb0
 have o2:W0.cell? ⟨w.heap.size,2,none⟩ = some (.int .i64 o.a):=X0.cell 2
 have lg:=lt_of_block X0
 clear x0 hb0
 clear o2 X0 lg
 refine (reads_walk ⟨o.s.toArray⟩ o.a _ (by have:=HS.out; simp [ByteArray.size]; omega)).mono ?_
 rintro e w1 ⟨rfl,hb1⟩
 have HB1:=hide (below_step HB0.out hb1)
 clear hb1
 go_wp2
 go_ret
 exact ⟨rfl,ps,Nat.le_succ _,(HH.out.le (Nat.le_add_right n 128)).nx HB1.out⟩
theorem step_any (wb:Nat) (A:Nat → Nat) (ps:List PA) (n:Nat) (o:LOp) (w:World) (h:WAt w A wb ps n) (hl:ps.length ≤ 1000000000) (hn:n ≤ 900000000) (hk:1 ≤ o.kind ∧ o.kind ≤ 11) (ho:OpOk w o) :
  Calls Tryz.prog 12 #[.pointer (some ⟨wb,0,none⟩),.agg (opCells o).toArray] w fun e w'=>e = .returned (.bool true) ∧ ∃ qs,qs.length ≤ ps.length + 1 ∧ Nx A wb qs (n + 128) w w':=by
 have hs:=ho.s
 have ht:=ho.t
 rcases (show o.kind = 1 ∨ o.kind = 2 ∨ o.kind = 3 ∨ o.kind = 4 ∨ o.kind = 5 ∨ o.kind = 6 ∨ o.kind = 7 ∨ o.kind = 8 ∨ o.kind = 9 ∨ o.kind = 10 ∨ o.kind = 11 by omega) with e | e | e | e | e | e | e | e | e | e | e
 ·exact step_new wb A ps n o w h e hl
 ·exact step_seen wb A ps n o w h e hl ho.line
 ·exact step_submit wb A ps n o w h e hl ho.line (by omega) (by omega) hn
 ·exact step_tick wb A ps n o w h e hl ho.line ho.a hn
 ·exact step_busy wb A ps n o w h e hl ho.line
 ·exact step_fault wb A ps n o w h e hl ho.line
 ·exact step_sums wb A ps n o w h e hs
 ·exact step_short wb A ps n o w h e
 ·exact step_encode wb A ps n o w h e hs ho.ps ho.pl ho.tx
 ·exact step_reads wb A ps n o w h e hs
 ·exact step_heard wb A ps n o w h e hl ho.line
/-- The World behind k steps of the script,all of it younger than w0. -/
def UpR (w0:World) (wb k:Nat) (W:World):Prop:=∃ A ps,WAt W A wb ps (128 * k) ∧ ps.length ≤ k ∧ Below w0.heap.size w0 W ∧ ∀ g,g < w0.heap.size → A g = 0
theorem UpR.new (w:World):UpR w w.heap.size 0 (w.alloc (.cells #[.slice none 0 0,.slice none 0 0] 34)):=by
 refine ⟨fun g=>if g = w.heap.size then 1 else 0,[],⟨.slice none 0 0,.slice none 0 0,[],[],?_,(fun x hx=>by cases hx),Nat.zero_le _⟩,Nat.zero_le _,Below.allocN (Below.refl _ _) _,fun g hg=>if_neg (by omega)⟩
 refine ⟨heap_alloc_new w _,if_pos rfl,⟨rfl,Or.inl ⟨rfl,rfl⟩⟩,(fun g hg=>by simp [Value.ownBlock] at hg),⟨rfl,Or.inl ⟨rfl,rfl⟩⟩,(fun g hg=>by simp [Value.ownBlock] at hg),(fun i k e=>by simp at e),(fun i k e=>by simp at e),(fun i k e=>by simp at e),(fun i k e=>by simp at e),(fun i p x e=>by simp at e),(fun i p x e=>by simp at e),rfl,fun g hg=>?_⟩
 by_cases e:g = w.heap.size
 ·rw [e]; simp
 ·simp [e] at hg
theorem UpR.below {w0 W W':World} {wb k:Nat} (h:UpR w0 wb k W) (b:Below W.heap.size W W'):UpR w0 wb k W':=by
 obtain ⟨A,ps,h1,h2,h3,h4⟩:=h
 exact ⟨A,ps,h1.below b,h2,below_step h3 b,h4⟩
theorem UpR.more {w0 W:World} {wb k:Nat} (h:UpR w0 wb k W):UpR w0 wb (k + 1) W:=by
 obtain ⟨A,ps,h1,h2,h3,h4⟩:=h
 exact ⟨A,ps,h1.le (by omega),by omega,h3,h4⟩
theorem UpR.step {w0 W W':World} {wb k:Nat} {A:Nat → Nat} {ps qs:List PA} (h2:ps.length ≤ k) (h3:Below w0.heap.size w0 W) (h4:∀ g,g < w0.heap.size → A g = 0) (hq:qs.length ≤ ps.length + 1) (hx:Nx A wb qs (128 * k + 128) W W'):UpR w0 wb (k + 1) W':=by
 obtain ⟨A',k1,k2,k3⟩:=hx
 have s:=h3.size
 refine ⟨A',qs,k1.le (by omega),by omega,⟨k2.os.trans h3.os,k2.tape.trans h3.tape,k2.output.trans h3.output,Nat.le_trans s k2.size,fun g hg=>(k2.block g (by omega) (fun z=>z (h4 g hg))).trans (h3.block g hg)⟩,fun g hg=>k3 g (by omega) (h4 g hg)⟩
def Tup (sa:Option Addr) (n cap:Nat) (K:Int) (wb k:Nat) (B:Bool) (a:Act):Prop:=a.defers = [] ∧ a.tmps = List.toArray (.slice sa n cap::.int .i64 K::undef::undef::gd a 4::.pointer (some ⟨wb,0,none⟩)::.int .i64 (k:Int)::gd a 7::gd a 8::undef::undef::.agg #[.slice none 0 0,.slice none 0 0]::.pointer (some ⟨wb,0,none⟩)::gd a 13::gd a 14::gd a 15::gd a 16::gd a 17::gd a 18::gd a 19::gd a 20::gd a 21::gd a 22::gd a 23::gd a 24::gd a 25::gd a 26::gd a 27::gd a 28::gd a 29::gd a 30::gd a 31::gd a 32::gd a 33::gd a 34::gd a 35::.bool B::gd a 37::gd a 38::gd a 39::gd a 40::gd a 41::gd a 42::gd a 43::gd a 44::gd a 45::gd a 46::gd a 47::gd a 48::gd a 49::gd a 50::undef::undef::undef::undef::undef::undef::undef::undef::undef::undef::undef::undef::undef::undef::undef::undef::undef::undef::undef::undef::undef::[])
theorem Tup.use {sa:Option Addr} {n cap:Nat} {K:Int} {wb k:Nat} {B:Bool} {a:Act} (h:Tup sa n cap K wb k B a):∃ u:Nat → Value,a = { tmps:=List.toArray (.slice sa n cap::.int .i64 K::undef::undef::u 4::.pointer (some ⟨wb,0,none⟩)::.int .i64 (k:Int)::u 7::u 8::undef::undef::.agg #[.slice none 0 0,.slice none 0 0]::.pointer (some ⟨wb,0,none⟩)::u 13::u 14::u 15::u 16::u 17::u 18::u 19::u 20::u 21::u 22::u 23::u 24::u 25::u 26::u 27::u 28::u 29::u 30::u 31::u 32::u 33::u 34::u 35::.bool B::u 37::u 38::u 39::u 40::u 41::u 42::u 43::u 44::u 45::u 46::u 47::u 48::u 49::u 50::undef::undef::undef::undef::undef::undef::undef::undef::undef::undef::undef::undef::undef::undef::undef::undef::undef::undef::undef::undef::undef::[]),defers:=[] }:=⟨fun i=>a.tmps.getD i undef,by obtain ⟨h1,h2⟩:=h; cases a; simp only at h1 h2; subst h1; exact congrArg (fun t=>({ tmps:=t,defers:=[] }:Act)) h2⟩
theorem upTo_w (K:Int) (sa:Option Addr) (cap:Nat) (l:List LOp) (w:World) (hK:K = 2078 ∨ K = 2142 ∨ K = 4094) (hs:OscAt w sa l) (ho:∀ o ∈ l,OpOk w o) (hl:l.length ≤ 2000000) :
  Calls Tryz.prog 9 #[.slice sa l.length cap,.int .i64 K] w fun e w'=>e = .returned (.int .i64 (-1)) ∧ Below w.heap.size w w':=by
 have HKK:=hide hK
 have HS:=hide hs
 have HO:=hide ho
 have HU0:=hide (UpR.new w)
 clear hs ho hK
 go_enter Tryz.func9,Tryz.ntmps9
 go_wp2
 go_loopw [6] (fun i wr=>∃ k:Nat,i = .int .i64 k ∧ k ≤ l.length ∧ Hid (UpR w w.heap.size k wr)) (fun i _=>l.length - (intOf i).toNat)
 case atStart=>exact ⟨0,rfl,Nat.zero_le _,HU0⟩
 case round =>
  generalize wr = W1 at *
  obtain ⟨k,rfl,hk,HR⟩:=hrel
  by_cases hlt:k < l.length
  ·have hne:l ≠ []:=fun e=>by rw [e] at hlt; simp at hlt
   rcases HS.out with e | ⟨b,off,rfl,hbl,hcell⟩
   ·exact absurd e hne
   obtain ⟨A,ps,hW,hpl,hbel,hz⟩:=HR.out
   obtain ⟨o,hoo⟩:∃ o,l[k]? = some o:=⟨_,List.getElem?_eq_getElem hlt⟩
   have q:∀ j v,(opCells o)[j]? = some v → W1.cell? ⟨b,off + k * 19 + j,none⟩ = some v:=fun j v e=>(hbel.cell (p:=⟨b,off + k * 19 + j,none⟩) hbl).trans (hcell k o hoo j v e)
   have HRg:Hid (W1.rangeAt b (off + k * 19) (opCells o)):=q
   have q0:=q 0 _ rfl
   simp only [Nat.add_zero] at q0
   have HUs:=hide HR.out.more
   have HN1:Hid (ps.length ≤ 1000000000):=by show _ ≤ _; omega
   have HN2:Hid (128 * k ≤ 900000000):=by show _ ≤ _; omega
   have HE:Hid ((∃ t:Nat,Value.int .i64 ((k:Int) + 1) = Value.int .i64 (t:Int) ∧ t ≤ l.length ∧ Hid (UpR w w.heap.size t W1)) ∧ l.length - (intOf (Value.int .i64 ((k:Int) + 1))).toNat < l.length - (intOf (Value.int .i64 (k:Int))).toNat):=⟨⟨k + 1,by go_num,by omega,HUs⟩,by simp [intOf]; omega⟩
   have HOk:Hid (OpOk W1 o):=(HO.out o (List.mem_of_getElem? hoo)).below hbel
   have HW:=hide hW
   have HB:=hide hbel
   have HZ:=hide hz
   have hlt':(k:Int) < (l.length:Int):=by omega
   clear hW hbel hz hcell hne q hoo HU0
   iterate 50 go_step
   refine region_only (fun a W=>∃ B,Tup (some ⟨b,off,none⟩) l.length cap K w.heap.size k B a ∧ W = W1 ∧ (B = false → 1 ≤ o.kind ∧ o.kind ≤ 11)) ?_ ?_
   ·generalize hkd:o.kind = kd at *
    clear q0 HRg HE HUs
    rcases (show kd < 1 ∨ 11 < kd ∨ kd = 1 ∨ kd = 2 ∨ kd = 3 ∨ kd = 4 ∨ kd = 5 ∨ kd = 6 ∨ kd = 7 ∨ kd = 8 ∨ kd = 9 ∨ kd = 10 ∨ kd = 11 by omega) with e | e | rfl | rfl | rfl | rfl | rfl | rfl | rfl | rfl | rfl | rfl | rfl
    all_goals go_wp2
    all_goals exact ⟨_,⟨rfl,rfl⟩,rfl,by first | omega | simp⟩
   rintro a1 W2 ⟨B,htk,rfl,hB⟩
   obtain ⟨u,rfl⟩:=htk.use
   clear htk
   cases B
   rotate_left
   ·clear hB
    go_wp2
    exact HE.out
   obtain ⟨hk1,hk2⟩:=hB rfl
   iterate 20 go_step
   refine wpList_load_mid rfl 39 (.tmp 40) rfl b (off + k * 19) rfl (opCells o) _ HRg.out Tryz.underlying39 rfl (by rw [infoOp]; rfl) ?_
   go_wp2_with fail
   refine (step_any w.heap.size A ps (128 * k) o _ HW.out HN1.out HN2.out ⟨hk1,hk2⟩ HOk.out).mono ?_
   rintro e w3 ⟨rfl,qs,hq,hx⟩
   have HU3:=hide (UpR.step hpl HB.out HZ.out hq hx)
   clear hq hx HW HOk HB HZ HR HUs HRg q0
   obtain ⟨A3,ps3,hW3,hpl3,hbel3,hz3⟩:=HU3.out
   obtain ⟨vl,vk,xs,ks,hw,hf,hks⟩:=hW3
   have HWC:=hide hw
   clear hw hf hpl3 hbel3 hz3
   go_wp2_with fail
   refine (whole_any w.heap.size vl vk ks _ HWC.out.blk HWC.out.rk HWC.out.ka (by omega)).mono ?_
   rintro e w4 ⟨rfl,hb4⟩
   have HU4:=hide (HU3.out.below hb4)
   clear hb4
   go_wp2
   go_roundw
   case rel=>exact ⟨k + 1,by go_num,by omega,HU4⟩
   case measure=>simp [intOf]; omega
  ·have hlt':¬ (k:Int) < (l.length:Int):=by omega
   obtain ⟨A,ps,hW,hpl,hbel,hz⟩:=HR.out
   obtain ⟨vl,vk,xs,ks,hw,hf,hks⟩:=hW
   obtain ⟨al,cl,rfl⟩:=hw.rp.form
   have lw:=hw.lt
   have c0:W1.cell? ⟨w.heap.size,0,none⟩ = some (.slice al ps.length cl):=(cells_at hw.blk).1 0
   have HWC:=hide hw
   have HB:=hide hbel
   clear hw hf hks hbel hz HU0 HR
   go_wp2
   go_loopw [9] (fun i wr=>∃ t:Nat,i = .int .i64 t ∧ t ≤ ps.length ∧ Hid (Below W1.heap.size W1 wr)) (fun i _=>ps.length - (intOf i).toNat)
   case atStart=>exact ⟨0,rfl,Nat.zero_le _,Below.refl _ _⟩
   case round =>
    generalize wr = W2 at *
    obtain ⟨t,rfl,ht,HB2⟩:=hrel
    have c1:=(HB2.out.cell (p:=⟨w.heap.size,0,none⟩) lw).trans c0
    by_cases htl:t < ps.length
    ·obtain ⟨p,hp⟩:∃ p,ps[t]? = some p:=⟨_,List.getElem?_eq_getElem htl⟩
     obtain ⟨x,hx⟩:∃ x,xs[t]? = some x:=⟨_,List.getElem?_eq_getElem (by rw [HWC.out.len]; exact htl)⟩
     obtain ⟨lb,cap',e,lbl,r0⟩:=HWC.out.rp.cell hp
     simp only [Value.slice.injEq,true_and] at e
     obtain ⟨rfl,rfl⟩:=e
     simp only [pSl] at r0
     have r1:=(HB2.out.cell (p:=⟨lb,t,none⟩) lbl).trans r0
     have HC2:=hide (HWC.out.keep HB2.out.size fun g _ hg=>HB2.out.block g hg)
     have HP:=hide hp
     have HX:=hide hx
     have htl':(t:Int) < (ps.length:Int):=by omega
     clear hp hx r0
     go_wp2_with fail
     refine (looks_line p x _ _ W2 (HC2.out.pa t p HP.out) (HC2.out.la t p x HP.out HX.out) (HC2.out.da t p x HP.out HX.out)).mono ?_
     rintro e w3 ⟨rfl,hb3⟩
     have HB3:=hide (below_step HB2.out hb3)
     clear hb3
     go_wp2
     go_roundw
     case rel=>exact ⟨t + 1,by go_num,by omega,HB3⟩
     case measure=>simp [intOf]; omega
    ·have htl':¬ (t:Int) < (ps.length:Int):=by omega
     go_wp2
     go_ret
     exact ⟨rfl,below_step HB.out HB2.out⟩
theorem plays_w (K:Int) (sa:Option Addr) (cap:Nat) (l:List LOp) (w:World) (hK:K = 2078 ∨ K = 2142 ∨ K = 4094) (hs:OscAt w sa l) (ho:∀ o ∈ l,OpOk w o) (hl:l.length ≤ 2000000) :
  Calls Tryz.prog 6 #[.slice sa l.length cap,.int .i64 K] w fun e w'=>e = .returned (.bool true) ∧ Below w.heap.size w w':=by
 have HS:=hide hs
 have HO:=hide ho
 clear hs ho
 go_enter Tryz.func6,Tryz.ntmps6
 go_wp2_with fail
 refine (some_any _).mono ?_
 rintro e w1 ⟨rfl,hb1⟩
 have HB1:=hide hb1
 clear hb1
 go_wp2_with fail
 refine (known_cfg _ _ _ _ _ _ _ _ _ _ _).mono ?_
 rintro e w2 ⟨rfl,hb2⟩
 have HB2:=hide (below_step (Below.allocN HB1.out _) hb2)
 clear hb2
 go_wp2_with fail
 refine (upTo_w K sa cap l _ hK (HS.out.below HB2.out) (fun o hm=>(HO.out o hm).below HB2.out) hl).mono ?_
 rintro e w3 ⟨rfl,hb3⟩
 have HB3:=hide (below_step HB2.out hb3)
 clear hb3
 go_wp2
 go_ret
 exact ⟨rfl,HB3.out⟩
theorem turns_w (sa:Option Addr) (cap:Nat) (l:List LOp) (w:World) (hs:OscAt w sa l) (ho:∀ o ∈ l,OpOk w o) (hl:l.length ≤ 2000000) :
  Calls Tryz.prog 3 #[.slice sa l.length cap] w fun e w'=>e = .returned (.bool true) ∧ Below w.heap.size w w':=by
 have HS:=hide hs
 have HO:=hide ho
 clear hs ho
 go_enter Tryz.func3,Tryz.ntmps3
 go_wp2_with fail
 refine (plays_w 2078 sa cap l w (by omega) HS.out HO.out hl).mono ?_
 rintro e w1 ⟨rfl,hb1⟩
 have HB1:=hide hb1
 clear hb1
 go_wp2
 go_ret
 exact ⟨rfl,HB1.out⟩
theorem faults_w (sa:Option Addr) (cap:Nat) (l:List LOp) (w:World) (hs:OscAt w sa l) (ho:∀ o ∈ l,OpOk w o) (hl:l.length ≤ 2000000) :
  Calls Tryz.prog 4 #[.slice sa l.length cap] w fun e w'=>e = .returned (.bool true) ∧ Below w.heap.size w w':=by
 have HS:=hide hs
 have HO:=hide ho
 clear hs ho
 go_enter Tryz.func4,Tryz.ntmps4
 go_wp2_with fail
 refine (plays_w 2142 sa cap l w (by omega) HS.out HO.out hl).mono ?_
 rintro e w1 ⟨rfl,hb1⟩
 have HB1:=hide hb1
 clear hb1
 go_wp2
 go_ret
 exact ⟨rfl,HB1.out⟩
theorem all_w (sa:Option Addr) (cap:Nat) (l:List LOp) (w:World) (hs:OscAt w sa l) (ho:∀ o ∈ l,OpOk w o) (hl:l.length ≤ 2000000) :
  Calls Tryz.prog 5 #[.slice sa l.length cap] w fun e w'=>e = .returned (.bool true) ∧ Below w.heap.size w w':=by
 have HS:=hide hs
 have HO:=hide ho
 clear hs ho
 go_enter Tryz.func5,Tryz.ntmps5
 go_wp2_with fail
 refine (plays_w 4094 sa cap l w (by omega) HS.out HO.out hl).mono ?_
 rintro e w1 ⟨rfl,hb1⟩
 have HB1:=hide hb1
 clear hb1
 go_wp2
 go_ret
 exact ⟨rfl,HB1.out⟩
end Go.Proofs.YtlbpjcphhocdkaaGreat
