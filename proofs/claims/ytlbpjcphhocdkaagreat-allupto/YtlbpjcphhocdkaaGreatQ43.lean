/- A script among the arguments, opened: its steps in memory, and how great they may be. The raw number that picks one of n things. Structs compared: messages. The law's World: an event that there never is. The law's .. -/
import Derived.Test.YtlbpjcphhocdkaaGreatQ42
import Derived.Test.YtlbpjcphhocdkaaGreatQ01
import Derived.Laws.StructEq
import Derived.Test.YtlbpjcphhocdkaaGreatQ09
import Derived.Test.YtlbpjcphhocdkaaGreatQ06
set_option maxRecDepth 1000000
set_option maxHeartbeats 16000000
namespace Go.Proofs.YtlbpjcphhocdkaaGreat
open Go.ChangeShapes Go.WideShapes Go.ChangeAt Go.RowKit Go.Joins
theorem cellsOp:Tryz.prog.cellsOf 39 = 19:=by kernel_rfl
theorem list10 {α:Type} {l:List α} (h:l.length = 10):∃ c0 c1 c2 c3 c4 c5 c6 c7 c8 c9,l = [c0,c1,c2,c3,c4,c5,c6,c7,c8,c9]:=by
 match l,h with
 | [c0,c1,c2,c3,c4,c5,c6,c7,c8,c9],_=>exact ⟨c0,c1,c2,c3,c4,c5,c6,c7,c8,c9,rfl⟩
theorem list19 {α:Type} {l:List α} (h:l.length = 19):∃ c0 c1 c2 c3 c4 c5 c6 c7 c8 r,l = c0::c1::c2::c3::c4::c5::c6::c7::c8::r ∧ r.length = 10:=by
 match l,h with
 | c0::c1::c2::c3::c4::c5::c6::c7::c8::r,h=>exact ⟨c0,c1,c2,c3,c4,c5,c6,c7,c8,r,rfl,by simpa using h⟩
theorem open_strL {H:Type} {enc:TypeId × Value → H} {W:World} {fuel:Nat} {v:Value} {y:DataW H × List MemPlace}
  (h:DataW.trod enc Tryz.prog W 0 (fun _=>true) true fuel 9 [v] = some y):∃ s:List UInt8,v = .string ⟨s.toArray⟩ ∧ y.1 = .lit (.string s):=by
 obtain ⟨s,e,hy,_⟩:=DataW.trod_string Tryz.underlying9 h
 simp only [List.cons.injEq,and_true] at e
 exact ⟨s.data.toList,by rw [e],by rw [hy]⟩
theorem open_blL {H:Type} {enc:TypeId × Value → H} {W:World} {fuel:Nat} {v:Value} {y:DataW H × List MemPlace}
  (h:DataW.trod enc Tryz.prog W 0 (fun _=>true) true fuel 4 [v] = some y):∃ b:Bool,v = .bool b:=by
 obtain ⟨b,e,hy⟩:=DataW.trod_bool Tryz.underlying4 h
 simp only [List.cons.injEq,and_true] at e
 exact ⟨b,e⟩
theorem open_cfgL {H:Type} {enc:TypeId × Value → H} {W:World} {fuel:Nat} {cs:List Value} {y:DataW H × List MemPlace}
  (h:DataW.trod enc Tryz.prog W 0 (fun _=>true) true fuel 26 cs = some y) :
  ∃ a0 a1 a2 a3 a4 a5 a6 a7 a8 a9:Int,cs = [.int .i64 a0,.int .i64 a1,.int .i64 a2,.int .i64 a3,.int .i64 a4,.int .i64 a5,.int .i64 a6,.int .i64 a7,.int .i64 a8,.int .i64 a9]:=by
 obtain ⟨xs,n,_,hy,hcl,hlen,hx⟩:=DataW.trod_struct Tryz.underlying26 h
 obtain ⟨c0,c1,c2,c3,c4,c5,c6,c7,c8,c9,rfl⟩:=list10 (hcl.trans cellsCfg)
 have z:∀ i,i < 10 → ∃ y,xs[i]? = some y:=fun i hi=>⟨xs[i]'(by rw [hlen]; exact hi),List.getElem?_eq_getElem _⟩
 have k0:=hx 0 _ rfl
 obtain ⟨y0,e0⟩:=z 0 (by omega)
 rw [e0] at k0
 obtain ⟨a0,rfl,_,_⟩:=open_i64 k0
 have k1:=hx 1 _ rfl
 obtain ⟨y1,e1⟩:=z 1 (by omega)
 rw [e1] at k1
 obtain ⟨a1,rfl,_,_⟩:=open_i64 k1
 have k2:=hx 2 _ rfl
 obtain ⟨y2,e2⟩:=z 2 (by omega)
 rw [e2] at k2
 obtain ⟨a2,rfl,_,_⟩:=open_i64 k2
 have k3:=hx 3 _ rfl
 obtain ⟨y3,e3⟩:=z 3 (by omega)
 rw [e3] at k3
 obtain ⟨a3,rfl,_,_⟩:=open_i64 k3
 have k4:=hx 4 _ rfl
 obtain ⟨y4,e4⟩:=z 4 (by omega)
 rw [e4] at k4
 obtain ⟨a4,rfl,_,_⟩:=open_i64 k4
 have k5:=hx 5 _ rfl
 obtain ⟨y5,e5⟩:=z 5 (by omega)
 rw [e5] at k5
 obtain ⟨a5,rfl,_,_⟩:=open_i64 k5
 have k6:=hx 6 _ rfl
 obtain ⟨y6,e6⟩:=z 6 (by omega)
 rw [e6] at k6
 obtain ⟨a6,rfl,_,_⟩:=open_i64 k6
 have k7:=hx 7 _ rfl
 obtain ⟨y7,e7⟩:=z 7 (by omega)
 rw [e7] at k7
 obtain ⟨a7,rfl,_,_⟩:=open_i64 k7
 have k8:=hx 8 _ rfl
 obtain ⟨y8,e8⟩:=z 8 (by omega)
 rw [e8] at k8
 obtain ⟨a8,rfl,_,_⟩:=open_i64 k8
 have k9:=hx 9 _ rfl
 obtain ⟨y9,e9⟩:=z 9 (by omega)
 rw [e9] at k9
 obtain ⟨a9,rfl,_,_⟩:=open_i64 k9
 exact ⟨a0,a1,a2,a3,a4,a5,a6,a7,a8,a9,rfl⟩
/-- One step: its cells,its data. -/
def OpD {H:Type} (o:LOp) (d:DataW H):Prop:=∃ ys dp,d = .agg ys ∧ ys[5]? = some (.lit (.string o.s)) ∧ ys[6]? = some (.lit (.string o.t)) ∧ ys[8]? = some dp ∧ PartsD o.pl dp
theorem open_op {H:Type} {enc:TypeId × Value → H} {W:World} {fuel:Nat} {cs:List Value} {y:DataW H × List MemPlace}
  (h:DataW.trod enc Tryz.prog W 0 (fun _=>true) true fuel 39 cs = some y):∃ o:LOp,cs = opCells o ∧ (I64 o.line ∧ I64 o.a) ∧ Texts W o.pa o.pl ∧ OpD o y.1:=by
 obtain ⟨xs,n,_,hy,hlen,hxl,hx⟩:=DataW.trod_struct Tryz.underlying39 h
 obtain ⟨c0,c1,c2,c3,c4,c5,c6,c7,c8,r,rfl,hr⟩:=list19 (hlen.trans cellsOp)
 have z:∀ i,i < 10 → ∃ y,xs[i]? = some y:=fun i hi=>⟨xs[i]'(by rw [hxl]; exact hi),List.getElem?_eq_getElem _⟩
 have k0:=hx 0 _ rfl
 obtain ⟨y0,e0⟩:=z 0 (by omega)
 rw [e0] at k0
 obtain ⟨a0,rfl,b0,_⟩:=open_i64 k0
 have k1:=hx 1 _ rfl
 obtain ⟨y1,e1⟩:=z 1 (by omega)
 rw [e1] at k1
 obtain ⟨a1,rfl,b1,_⟩:=open_i64 k1
 have k2:=hx 2 _ rfl
 obtain ⟨y2,e2⟩:=z 2 (by omega)
 rw [e2] at k2
 obtain ⟨a2,rfl,b2,_⟩:=open_i64 k2
 have k3:=hx 3 _ rfl
 obtain ⟨y3,e3⟩:=z 3 (by omega)
 rw [e3] at k3
 obtain ⟨a3,rfl,b3,_⟩:=open_i64 k3
 have k4:=hx 4 _ rfl
 obtain ⟨y4,e4⟩:=z 4 (by omega)
 rw [e4] at k4
 obtain ⟨a4,rfl,b4,_⟩:=open_i64 k4
 have k5:=hx 5 _ rfl
 obtain ⟨y5,e5⟩:=z 5 (by omega)
 rw [e5] at k5
 obtain ⟨s5,rfl,f5⟩:=open_strL k5
 have k6:=hx 6 _ rfl
 obtain ⟨y6,e6⟩:=z 6 (by omega)
 rw [e6] at k6
 obtain ⟨s6,rfl,f6⟩:=open_strL k6
 have k7:=hx 7 _ rfl
 obtain ⟨y7,e7⟩:=z 7 (by omega)
 rw [e7] at k7
 obtain ⟨x7,rfl⟩:=open_blL k7
 have k8:=hx 8 _ rfl
 obtain ⟨y8,e8⟩:=z 8 (by omega)
 rw [e8] at k8
 obtain ⟨pa,pl,pc,rfl,htx,hpd⟩:=open_texts k8
 have k9:=hx 9 _ rfl
 obtain ⟨y9,e9⟩:=z 9 (by omega)
 rw [e9] at k9
 obtain ⟨g0,g1,g2,g3,g4,g5,g6,g7,g8,g9,hg⟩:=open_cfgL k9
 have hrr:r = [.int .i64 g0,.int .i64 g1,.int .i64 g2,.int .i64 g3,.int .i64 g4,.int .i64 g5,.int .i64 g6,.int .i64 g7,.int .i64 g8,.int .i64 g9]:=by
  obtain ⟨r0,r1,r2,r3,r4,r5,r6,r7,r8,r9,rfl⟩:=list10 hr
  exact hg
 subst hrr
 refine ⟨⟨a0,a1,a2,a3,a4,s5,s6,x7,pa,pl,pc,g0,g1,g2,g3,g4,g5,g6,g7,g8,g9⟩,rfl,⟨b1,b2⟩,htx,xs.map (·.1),y8.1,by rw [hy],?_,?_,?_,hpd⟩
 ·rw [List.getElem?_map,e5]; simp [f5]
 ·rw [List.getElem?_map,e6]; simp [f6]
 ·rw [List.getElem?_map,e8]; rfl
/-- The data of a script. -/
def OscD {H:Type} (l:List LOp) (d:DataW H):Prop:=l = [] ∨ ∃ ds rest,d = .slice ds rest ∧ ds.length = l.length ∧ ∀ (i:Nat) o,l[i]? = some o → ∃ y,ds[i]? = some y ∧ OpD o y
theorem open_osc {H:Type} {enc:TypeId × Value → H} {W:World} {base:Nat} {v:Value} {d:DataW H} {p:List MemPlace}
  (hv:Value.okWide Tryz.prog W .any base 22 v) (h:DataW.Trod enc Tryz.prog W 0 (fun _=>true) true 22 v d p) :
  ∃ (a:Option Addr) (l:List LOp) (cap:Nat),v = .slice a l.length cap ∧ OscAt W a l ∧ (∀ o ∈ l,(I64 o.line ∧ I64 o.a) ∧ Texts W o.pa o.pl) ∧ OscD l d:=by
 obtain ⟨a',len',cap',rfl⟩:=okWide_slice Tryz.underlying22 hv
 obtain ⟨fuel,hf⟩:=h
 rcases DataW.trod_slice Tryz.underlying22 hf with ⟨hcs,hx⟩ | ⟨a,len,cap,elems,rest,n,_,hcs,hx,_,_,_,hel,hcell,_⟩
 ·simp only [Value.cells,List.cons.injEq,and_true,Value.slice.injEq] at hcs
  obtain ⟨rfl,rfl,rfl⟩:=hcs
  exact ⟨none,[],0,rfl,Or.inl rfl,(fun o ho=>by cases ho),Or.inl rfl⟩
 ·simp only [Value.cells,List.cons.injEq,and_true,Value.slice.injEq] at hcs
  obtain ⟨rfl,rfl,rfl⟩:=hcs
  rw [cellsOp] at hcell
  have key:∀ i,∃ o:LOp,i < len' → (∀ j c,(opCells o)[j]? = some c → W.cell? ((a.add (i * 19)).add j) = some c) ∧ ((I64 o.line ∧ I64 o.a) ∧ Texts W o.pa o.pl) ∧ ∃ y,elems[i]? = some y ∧ OpD o y.1:=by
   intro i
   by_cases hi:i < len'
   ·have hc:=hcell i hi
    have he:elems[i]? = some (elems[i]'(by omega)):=List.getElem?_eq_getElem _
    rw [he] at hc
    obtain ⟨cs,h1,h2⟩:=Option.bind_eq_some_iff.1 hc
    obtain ⟨o,rfl,hb,htx,hd⟩:=open_op h2
    obtain ⟨_,_,h3⟩:=World.cells?_some h1
    refine ⟨o,fun _=>⟨fun j c hj=>?_,⟨hb,htx⟩,_,he,hd⟩⟩
    have hj8:j < 19:=by
     rcases Nat.lt_or_ge j 19 with z | z
     ·exact z
     ·rw [List.getElem?_eq_none (by simp [opCells]; omega)] at hj; cases hj
    exact (h3 j hj8).trans hj
   ·exact ⟨⟨0,0,0,0,0,[],[],false,none,[],0,0,0,0,0,0,0,0,0,0,0⟩,fun h=>absurd h hi⟩
  refine ⟨some a,(List.range len').map fun i=>Classical.choose (key i),cap',by simp,?_,?_,?_⟩
  ·by_cases h0:len' = 0
   ·left; subst h0; rfl
   ·right
    have k0:=(Classical.choose_spec (key 0) (by omega)).1 0 _ rfl
    obtain ⟨b,off,spot⟩:=a
    have hspot:spot = none:=by simpa [Addr.add] using World.cell?_spot k0
    subst hspot
    refine ⟨b,off,rfl,?_,?_⟩
    ·exact World.block_lt_of_cell? W _ k0
    ·intro i o hio j c hj
     have hi:i < len':=by
      rcases Nat.lt_or_ge i len' with z | z
      ·exact z
      ·rw [List.getElem?_eq_none (by simp; omega)] at hio; cases hio
     rw [List.getElem?_map,List.getElem?_range hi] at hio
     simp only [Option.map_some,Option.some.injEq] at hio
     subst hio
     have:=(Classical.choose_spec (key i) hi).1 j c hj
     rw [Go.WideShapes.add_plain,Go.WideShapes.add_plain] at this
     exact this
  ·intro o ho
   simp only [List.mem_map,List.mem_range] at ho
   obtain ⟨i,hi,rfl⟩:=ho
   exact (Classical.choose_spec (key i) hi).2.1
  ·right
   simp only [Prod.mk.injEq] at hx
   refine ⟨_,_,hx.1,by simp [hel],?_⟩
   intro i o hio
   have hi:i < len':=by
    rcases Nat.lt_or_ge i len' with z | z
    ·exact z
    ·rw [List.getElem?_eq_none (by simp; omega)] at hio; cases hio
   rw [List.getElem?_map,List.getElem?_range hi] at hio
   simp only [Option.map_some,Option.some.injEq] at hio
   subst hio
   obtain ⟨y,hy,hd⟩:=(Classical.choose_spec (key i) hi).2.2
   exact ⟨y.1,by rw [List.getElem?_map,hy]; rfl,hd⟩
theorem bulk_one {H:Type} (d:DataW H):1 ≤ Rows.uptoBulk d:=by
 cases d with
 | lit l=>cases l <;> simp [Rows.uptoBulk]
 | _=>simp [Rows.uptoBulk]
theorem bulk_at {H:Type} {l:List (DataW H)} {i:Nat} {d:DataW H} (h:l[i]? = some d):Rows.uptoBulk d ≤ Rows.uptoBulkAll l:=by
 induction l generalizing i with
 | nil=>simp at h
 | cons x r ih =>
  simp only [Rows.uptoBulkAll]
  cases i with
  | zero=>simp only [List.getElem?_cons_zero,Option.some.injEq] at h; subst h; omega
  | succ i=>have:=ih (i:=i) (by simpa using h); omega
theorem bulk_len {H:Type} (l:List (DataW H)):l.length ≤ Rows.uptoBulkAll l:=by
 induction l with
 | nil=>simp [Rows.uptoBulkAll]
 | cons x r ih=>have:=bulk_one x; simp only [Rows.uptoBulkAll,List.length_cons]; omega
theorem bulk_strs {H:Type} (l:List ByteArray) (s:ByteArray) (h:s ∈ l):s.size ≤ Rows.uptoBulkAll (H:=H) (strs l):=by
 obtain ⟨i,hi,he⟩:=List.getElem_of_mem h
 have:(strs (H:=H) l)[i]? = some (.lit (.string s.data.toList)):=by
  unfold strs
  rw [List.getElem?_map,List.getElem?_eq_getElem hi,he]
  rfl
 have:=bulk_at this
 simp only [Rows.uptoBulk] at this
 have e:s.data.toList.length = s.size:=by simp
 omega
/-- How great a script may be. -/
theorem osc_bulk {H:Type} {l:List LOp} {d:DataW H} (h:OscD l d) (hk:Rows.uptoSmall H [d] = true):l.length ≤ 1048576 ∧ ∀ o ∈ l,o.s.length ≤ 1048576 ∧ o.t.length ≤ 1048576 ∧ o.pl.length ≤ 1048576 ∧ ∀ s ∈ o.pl,s.size ≤ 1048576:=by
 have hb:=of_decide_eq_true hk
 simp only [Rows.uptoBulkAll] at hb
 rcases h with rfl | ⟨es,rest,rfl,hl,he⟩
 ·exact ⟨Nat.zero_le _,(fun o ho=>by cases ho)⟩
 ·simp only [Rows.uptoBulk] at hb
  have hn:=bulk_len es
  refine ⟨by omega,?_⟩
  intro o ho
  obtain ⟨i,hi,hio⟩:=List.getElem_of_mem ho
  obtain ⟨y,hy,ys,dp,rfl,h5,h6,h8,hp⟩:=he i o (by rw [List.getElem?_eq_getElem hi,hio])
  have b0:=bulk_at hy
  simp only [Rows.uptoBulk] at b0
  have b5:=bulk_at h5
  have b6:=bulk_at h6
  have b8:=bulk_at h8
  simp only [Rows.uptoBulk] at b5 b6
  refine ⟨by omega,by omega,?_⟩
  rcases hp with ⟨_,e⟩ | ⟨sp,rfl⟩
  ·rw [e]; exact ⟨Nat.zero_le _,(fun s hs=>by cases hs)⟩
  ·simp only [Rows.uptoBulk] at b8
   have hln:=bulk_len (H:=H) (strs o.pl)
   have e:(strs (H:=H) o.pl).length = o.pl.length:=by simp [strs]
   refine ⟨by omega,fun s hs=>?_⟩
   have:=bulk_strs (H:=H) o.pl s hs
   omega
end Go.Proofs.YtlbpjcphhocdkaaGreat
namespace Go.Proofs.YtlbpjcphhocdkaaGreat
open Go.RowKit
def pickL (c n:Int):Int:=(if c < 0 then -(c + 1) else c) % n
theorem pickL_any (c n:Int) (w:World) (h0:-9223372036854775808 ≤ c) (h1:c ≤ 9223372036854775807) (hn:0 < n) (hm:n ≤ 1000000000) :
  Calls Tryz.prog 18 #[.int .i64 c,.int .i64 n] w fun e w'=>e = .returned (.int .i64 (pickL c n)) ∧ w' = w:=by
 have hnz:(n == 0) = false:=by simp; omega
 by_cases hc:c < 0
 ·have HP:Hid (pickL c n = (-(c + 1)) % n):=by simp [Hid,pickL,hc]
  have hb:0 ≤ -(c + 1):=by omega
  go_enter Tryz.func18,Tryz.ntmps18
  go_wp2
  go_ret
  refine ⟨?_,rfl⟩
  rw [HP.out]
  show Ending.returned (Value.int .i64 (-(c + 1).tmod n)) = _
  rw [← Int.neg_tmod,Int.tmod_eq_emod_of_nonneg hb]
 ·have HP:Hid (pickL c n = c % n):=by simp [Hid,pickL,hc]
  have hb:0 ≤ c:=by omega
  go_enter Tryz.func18,Tryz.ntmps18
  go_wp2
  go_ret
  exact ⟨by rw [HP.out]; rfl,rfl⟩
theorem pickL_lt (c n:Int) (hn:0 < n):0 ≤ pickL c n ∧ pickL c n < n:=by
 unfold pickL
 exact ⟨Int.emod_nonneg _ (by omega),Int.emod_lt_of_pos _ hn⟩
theorem pickL_nat (c:Int) (n:Nat) (w:World) (h0:-9223372036854775808 ≤ c) (h1:c ≤ 9223372036854775807) (hn:0 < n) (hm:n ≤ 1000000000) :
  Calls Tryz.prog 18 #[.int .i64 c,.int .i64 n] w fun e w'=>∃ k:Nat,e = .returned (.int .i64 k) ∧ k < n ∧ w' = w:=by
 refine (pickL_any c n w h0 h1 (by omega) (by omega)).mono ?_
 rintro e w' ⟨rfl,hw⟩
 obtain ⟨a,b⟩:=pickL_lt c n (by omega)
 refine ⟨(pickL c n).toNat,?_,by omega,hw⟩
 rw [Int.toNat_of_nonneg a]
theorem eqMsgIn (d:Nat) (a b a' b':ByteArray) (c c':Bool) (w:World):(Op.equalIn (d + 1 + 1) 60 (.agg #[.string a,.string b,.bool c]) (.agg #[.string a',.string b',.bool c'])).run Tryz.prog w = .ok (a.toList == a'.toList && (b.toList == b'.toList && c == c')) w:=by
 have u9:=Tryz.underlying9
 have a9:=Tryz.isAgg9
 have z9:=Tryz.sizeOf9
 have u4:=Tryz.underlying4
 have a4:=Tryz.isAgg4
 have z4:=Tryz.sizeOf4
 have hS:Tryz.prog.underlying 60 = some (.struct (Tryz.prog.fieldsOf 60)):=by kernel_rfl
 have hp:Tryz.prog.stoodInHeld 60 = false:=by kernel_rfl
 rw [run_equalIn_agg w (d + 1) 60 _ _ hS hp]
 simp only [Program.fieldsOf,Tryz.underlying60]
 go_simp
 by_cases h1:a.toList = a'.toList <;> by_cases h2:b.toList = b'.toList <;> by_cases h3:c = c' <;> simp [h1,h2,h3]
end Go.Proofs.YtlbpjcphhocdkaaGreat
namespace Go.Proofs.YtlbpjcphhocdkaaGreat
open Go.RowKit Go.Proofs.YtlbpjcphhocdkaaGreat.Mod Go.Proofs.YtlbpjcphhocdkaaGreat.Pst
/-- The event of the list n that there never is. -/
def spC (n:Nat):List Value:=[.int .i64 (-1),.int .i64 (-1),.int .i64 (-1 - (n:Int)),.string ⟨#[]⟩,.string ⟨#[]⟩,.bool false]
def spV (n:Nat):Value:=.agg #[.int .i64 (-1),.int .i64 (-1),.int .i64 (-1 - (n:Int)),.string ⟨#[]⟩,.string ⟨#[]⟩,.bool false]
theorem spoilt_any (n:Nat) (w:World) (hn:n ≤ 1000000000000) :
  Calls Tryz.prog 25 #[.int .i64 n] w fun e w'=>e = .returned (spV n) ∧ Below w.heap.size w w':=by
 go_enter Tryz.func25,Tryz.ntmps25
 go_wp2
 (try simp only [Exit.inBlock,Exit.then])
 refine bodyPost_ret (results_ev rfl _ _ w.heap.size rfl (EvAt.new rfl _ _ _ _ _ _)) rfl ?_
 exact ⟨rfl,(Below.refl _ _).alloc (Nat.le_refl _) _⟩
theorem guardEv:Tryz.prog.eqGuardType Tryz.prog.depth 62 = false:=by kernel_rfl
theorem eqEv_same (x y z:Int) (a b:ByteArray) (c:Bool) (w:World):(Op.equalIn 10000 62 (.agg #[.int .i64 x,.int .i64 y,.int .i64 z,.string a,.string b,.bool c]) (.agg #[.int .i64 x,.int .i64 y,.int .i64 z,.string a,.string b,.bool c])).run Tryz.prog w = .ok true w:=by
 have u3:=Tryz.underlying3
 have a3:=Tryz.isAgg3
 have z3:=Tryz.sizeOf3
 have u6:=Tryz.underlying60
 have a6:=Tryz.isAgg60
 have z6:=Tryz.sizeOf60
 have hM:=fun w=>eqMsgIn 9997 a b a b c c w
 have hS:Tryz.prog.underlying 62 = some (.struct (Tryz.prog.fieldsOf 62)):=by kernel_rfl
 have hp:Tryz.prog.stoodInHeld 62 = false:=by kernel_rfl
 rw [run_equalIn_agg w 9999 62 _ _ hS hp]
 simp only [Program.fieldsOf,Tryz.underlying62]
 go_simp
def noEv:Ev:=⟨0,0,0,noMsg⟩
theorem ecells_get (l:List Ev) (i k:Nat) (hk:k < 6) (hi:i < l.length):(ecells l)[i * 6 + k]? = (evCells (some (l.getD i noEv)))[k]?:=by
 induction l generalizing i with
 | nil=>simp at hi
 | cons e l ih =>
  have hc:ecells (e::l) = evCells (some e) ++ ecells l:=by simp [ecells]
  have h6:(evCells (some e)).length = 6:=rfl
  rw [hc]
  cases i with
  | zero=>rw [List.getElem?_append_left (by omega)]; simp
  | succ i =>
   rw [List.getElem?_append_right (by omega),h6,show (i + 1) * 6 + k - 6 = i * 6 + k by omega,ih i (by simpa using hi)]
   rfl
theorem OwnE.at' {w:World} {B:Nat} {v:Value} {l:List Ev} (h:OwnE w B v l) (hl:l ≠ []) :
  ∃ g cap,v = .slice (some ⟨g,0,none⟩) l.length cap ∧ B ≤ g ∧ g < w.heap.size ∧ ∀ i,i < l.length → ∀ k,k < 6 → w.cell? ⟨g,i * 6 + k,none⟩ = (evCells (some (l.getD i noEv)))[k]?:=by
 rcases h.2 with ⟨_,h0⟩ | ⟨g,cap,cur,rfl,hB,hh,h1,h2,h3,h4⟩
 ·exact absurd (List.eq_nil_of_length_eq_zero h0) hl
 ·refine ⟨g,cap,rfl,hB,lt_of_block hh,fun i hi k hk=>?_⟩
  have hlen:(ecells l).length = l.length * 6:=by
   clear h h1 h2 h3 h4 hl hi hh
   induction l with
   | nil=>rfl
   | cons e l ih=>rw [show ecells (e::l) = evCells (some e) ++ ecells l by simp [ecells],List.length_append,ih]; simp [evCells]; omega
  have:=World.ownsRow.cellAt h (i * 6 + k) (by omega)
  rw [this,ecells_get l i k hk hi]
theorem OwnE.row {w w':World} {B:Nat} {v:Value} {l:List Ev} (h:OwnE w B v l) (hb:∀ g,v.ownBlock = some g → g < w.heap.size → w'.heap[g]? = w.heap[g]?):OwnE w' B v l:=by
 obtain ⟨h1,h2⟩:=h
 refine ⟨h1,?_⟩
 rcases h2 with h2 | ⟨g,cap,cur,hv,hB,hh,r⟩
 ·exact Or.inl h2
 ·exact Or.inr ⟨g,cap,cur,hv,hB,(hb g (by rw [hv]; rfl) (lt_of_block hh)).trans hh,r⟩
theorem OwnE.form {w:World} {B:Nat} {v:Value} {l:List Ev} (h:OwnE w B v l):∃ a cap,v = .slice a l.length cap:=by
 rcases h.2 with ⟨rfl,h0⟩ | ⟨g,cap,cur,rfl,_⟩
 ·exact ⟨none,0,by rw [h0]⟩
 ·exact ⟨_,cap,rfl⟩
theorem sameEvents_any (B B':Nat) (v v':Value) (l:List Ev) (w:World) (h:OwnE w B v l) (h':OwnE w B' v' l) (hl:l.length ≤ 1000) :
  Calls Tryz.prog 63 #[v,v'] w fun e w'=>e = .returned (.bool true) ∧ ∃ n,w' = w.drewN n:=by
 obtain ⟨a,cap,rfl⟩:=h.form
 obtain ⟨a',cap',rfl⟩:=h'.form
 have H:=hide h
 have H':=hide h'
 have hne:((l.length:Int) != (l.length:Int)) = false:=by simp
 clear h h'
 go_enter Tryz.func63,Tryz.ntmps63
 go_wp2
 go_loopw [5] (fun i wr=>∃ k n:Nat,i = .int .i64 k ∧ k ≤ l.length ∧ wr = w.drewN n) (fun i _=>l.length - (intOf i).toNat)
 case atStart=>exact ⟨0,0,rfl,Nat.zero_le _,rfl⟩
 case round =>
  generalize wr = W1 at *
  obtain ⟨k,n,rfl,hk,rfl⟩:=hrel
  by_cases hlt:k < l.length
  ·have hnil:l ≠ []:=fun e=>by rw [e] at hlt; simp at hlt
   obtain ⟨g,c1,e1,_,_,hc⟩:=H.out.at' hnil
   obtain ⟨g',c2,e2,_,_,hc'⟩:=H'.out.at' hnil
   simp only [Value.slice.injEq,true_and] at e1 e2
   obtain ⟨rfl,rfl⟩:=e1
   obtain ⟨rfl,rfl⟩:=e2
   have y0:=hc k hlt 0 (by omega)
   have y1:=hc k hlt 1 (by omega)
   have y2:=hc k hlt 2 (by omega)
   have y3:=hc k hlt 3 (by omega)
   have y4:=hc k hlt 4 (by omega)
   have y5:=hc k hlt 5 (by omega)
   have z0:=hc' k hlt 0 (by omega)
   have z1:=hc' k hlt 1 (by omega)
   have z2:=hc' k hlt 2 (by omega)
   have z3:=hc' k hlt 3 (by omega)
   have z4:=hc' k hlt 4 (by omega)
   have z5:=hc' k hlt 5 (by omega)
   generalize l.getD k noEv = e at *
   simp only [evCells,List.getElem?_cons_zero,List.getElem?_cons_succ,Nat.add_zero] at y0 y1 y2 y3 y4 y5 z0 z1 z2 z3 z4 z5
   have hq:=eqEv_same e.kind e.station e.number ⟨e.msg.head.toArray⟩ ⟨e.msg.text.toArray⟩ e.msg.clear
   have hm:=guardEv
   have hlt':(k:Int) < (l.length:Int):=by omega
   clear hc hc' hnil
   go_wp2_with fail
   go_quiet (fail)
   go_wp2
   go_roundw
   case rel=>exact ⟨k + 1,n + nq,by go_num,by omega,by first | rfl | simp⟩
   case measure=>simp [intOf]; omega
  ·have hlt':¬ (k:Int) < (l.length:Int):=by omega
   go_wp2
   go_ret
   exact ⟨rfl,n,rfl⟩
end Go.Proofs.YtlbpjcphhocdkaaGreat
