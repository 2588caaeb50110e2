/- The program's functions beneath Read: the block that is found. -/
import Derived.Test.YtlbpjcphhocdkaaRd3
import Derived.Test.YtlbpjcphhocdkaaEnc4
import Derived.Handy
namespace Go.Proofs.Ytlbpjcphhocdkaa
open Go.RowKit

/-- The slice value v, among the blocks from B on, holds just the texts l. -/
def OwnS (w : World) (B : Nat) (v : Value) (l : List ByteArray) : Prop := w.ownsRow B 9 1 v l.length (l.map Value.string)

theorem OwnS.nil (w : World) (B : Nat) : OwnS w B (.slice none 0 0) [] := World.ownsRow_nil w B 9 1
theorem OwnS.alloc {w : World} {B : Nat} {v : Value} {l : List ByteArray} (h : OwnS w B v l) (o : Obj) : OwnS (w.alloc o) B v l := World.ownsRow.alloc h o
theorem OwnS.keep {w w' : World} {B : Nat} {v : Value} {l : List ByteArray} (h : OwnS w B v l) (hb : ∀ g, B ≤ g → g < w.heap.size → w'.heap[g]? = w.heap[g]?) : OwnS w' B v l := by
  obtain ⟨h1, h2⟩ := h
  refine ⟨h1, ?_⟩
  rcases h2 with h2 | ⟨g, cap, cur, hv, hB, hh, r⟩
  · exact Or.inl h2
  · exact Or.inr ⟨g, cap, cur, hv, hB, (hb g hB (lt_of_block hh)).trans hh, r⟩
theorem OwnS.below {w w' : World} {B : Nat} {v : Value} {l : List ByteArray} (h : OwnS w B v l) (hb : Below w.heap.size w w') : OwnS w' B v l := h.keep fun g _ hg => hb.block g hg
theorem OwnS.setCell {w : World} {B g o : Nat} {x v : Value} {l : List ByteArray} (h : OwnS w B v l) (hg : g < B) : OwnS (w.setCell ⟨g, o, none⟩ x) B v l := h.keep fun k hk _ => Below.heap_setCell _ _ _ _ (by simp only [ne_eq]; omega)
theorem OwnS.texts {w : World} {B : Nat} {v : Value} {l : List ByteArray} (h : OwnS w B v l) : ∃ a cap, v = .slice a l.length cap ∧ Texts w a l := by
  rcases h.2 with ⟨rfl, h0⟩ | ⟨g, cap, cur, rfl, hB, hh, r⟩
  · have : l = [] := List.eq_nil_of_length_eq_zero h0
    subst this
    exact ⟨none, 0, rfl, Or.inl rfl⟩
  · refine ⟨_, cap, rfl, Or.inr ⟨g, 0, rfl, fun i hi => ?_⟩⟩
    have := World.ownsRow.cellAt h i (by simpa using hi)
    rw [Nat.zero_add, this]
    simp [List.getD, List.getElem?_eq_getElem hi]

section
variable {ops : Array Oper} {rest : List Oper} {o : Oper} {a : Act} {Q : Exit → Act → World → Prop}
theorem app_txt (W : World) (s : ByteArray) (hgd : o.guard = none) (sl x : Operand)
    (ho : o.op = .call { callee := .builtin .append, args := #[sl, x], argTypes := #[28, 28] })
    (B : Nat) (v : Value) (l : List ByteArray) (g cp : Nat) (hs : a.eval sl = v) (hx : a.eval x = .slice (some ⟨g, 0, none⟩) 1 cp) (hg0 : g = W.heap.size) (hown : OwnS W B v l)
    (hlen : l.length ≤ 1000) (w0 : World) (hbel : Below B w0 W) (hB : B ≤ W.heap.size)
    (h : ∀ v' W', OwnS W' B v' (l ++ [s]) → Below B w0 W' → B ≤ W'.heap.size → wpList Try.prog ops Q rest (a.put o.dst v') W') :
    wpList Try.prog ops Q (o :: rest) a (W.alloc (.cells #[.string s] 9)) := by
  obtain ⟨i0, hi, hz0, hz1, hz2⟩ := info_parts Try.infoStr
  subst hg0
  refine wpList_append_own _ hgd sl x 28 ho B 9 i0 (.string ⟨#[]⟩) 1 16 Try.underlying28 hi hz0 hz1 hz2 rfl (by decide) v l.length (l.map Value.string) hs (hown.alloc _) ⟨W.heap.size, 0, none⟩ 1 cp [.string s] hx rfl
    (cell_one_new _ _ _) (by intro u hu; simp at hu; subst hu; rfl) (by unfold maxLen; omega) (by omega) (by simp; omega) ?_
  intro v' W' ho' hg _
  have hlt : ∀ k, v.ownBlock = some k → B ≤ k := fun k hk => (World.ownsRow.lt hown k hk).1
  refine h v' W' ?_ ((hbel.alloc hB _).grown hg (by simp; omega) hlt) (by have := hg.size; simp at this; omega)
  unfold OwnS
  rw [List.map_append, List.length_append]
  exact ho'
end

/-- Behind some parts: where the next one begins, the end of the last, and the texts. -/
def FInv (kk : Int) (s : ByteArray) (k : Nat) (x : UInt8) (l : List ByteArray) : Prop :=
  ∀ h0 ps0 c0 t0 y, Prs.Good kk s.data.toList h0 ps0 c0 t0 y → l.length ≤ ps0.length ∧ k = (Prs.pre h0 ps0 c0 t0 kk l.length).length ∧ datas l = ps0.take l.length ∧ x = (if l.length = 0 then 31 else Blk.endC t0 ps0.length (l.length - 1))

theorem FInv.start (kk : Int) (s h : ByteArray) (c : Bool) (k : Nat) (hk : k = (Blk.openL h.data.toList c).length) (hc : ∀ h0 ps0 c0 t0 y, Prs.Good kk s.data.toList h0 ps0 c0 t0 y → h.data.toList = h0 ∧ c = c0) : FInv kk s k 31 [] := by
  intro h0 ps0 c0 t0 y g
  obtain ⟨rfl, rfl⟩ := hc _ _ _ _ _ g
  exact ⟨Nat.zero_le _, by rw [hk]; rfl, rfl, rfl⟩
theorem FInv.lt {kk : Int} {s : ByteArray} {k : Nat} {x : UInt8} {l : List ByteArray} (h : FInv kk s k x l) (hx : x.toNat = 31) {h0 : List UInt8} {ps0 : List (List UInt8)} {c0 t0 : Bool} {y : List UInt8} (g : Prs.Good kk s.data.toList h0 ps0 c0 t0 y) : l.length < ps0.length := by
  obtain ⟨h1, _, _, h4⟩ := h _ _ _ _ _ g
  have n1 := (Blk.berr_ok g.ok).2.1
  by_cases hz : l.length = 0
  · omega
  · rw [if_neg hz] at h4
    rcases Nat.lt_or_ge l.length ps0.length with h | h
    · exact h
    · have := (Prs.endC_end' t0 ps0.length (l.length - 1) (by omega)).1
      rw [← h4] at this
      exact absurd hx this
theorem FInv.step {kk : Int} {s : ByteArray} {k : Nat} {x : UInt8} {l : List ByteArray} (h : FInv kk s k x l) (hx : x.toNat = 31) {c : Bool} {r : ByteArray} {u : UInt8} {nx nn : Nat} (ha : CutAns c s k r u nx)
    (hc : ∀ h0 ps0 c0 t0 y, Prs.Good kk s.data.toList h0 ps0 c0 t0 y → c = c0) (hn : nn = nx + (kk.toNat + 1)) : FInv kk s nn u (l ++ [r]) := by
  intro h0 ps0 c0 t0 y g
  have hlt := h.lt hx g
  obtain ⟨h1, h2, h3, h4⟩ := h _ _ _ _ _ g
  have hcc := hc _ _ _ _ _ g
  subst hcc
  have hcut := g.cut l.length hlt
  rw [← h2] at hcut
  obtain ⟨a1, a2, a3⟩ := ha
  rw [hcut] at a1 a2 a3
  simp only at a1 a2 a3
  have hl : (l ++ [r]).length = l.length + 1 := by simp
  rw [hl]
  refine ⟨by omega, ?_, ?_, ?_⟩
  · rw [g.step, ← h2, hn, a3]
    omega
  · rw [List.take_succ_eq_append_getElem hlt, ← h3]
    have e : r.data.toList = ps0[l.length] := by rw [a1.data]; simp [List.getD, List.getElem?_eq_getElem hlt]
    rw [← e]
    simp [datas]
  · rw [if_neg (by omega), a2]
    simp
theorem FInv.fin {kk : Int} {s : ByteArray} {k : Nat} {x : UInt8} {l : List ByteArray} (h : FInv kk s k x l) (hx : ¬ x.toNat = 31 ∨ 4 < l.length) {h0 : List UInt8} {ps0 : List (List UInt8)} {c0 t0 : Bool} {y : List UInt8} (g : Prs.Good kk s.data.toList h0 ps0 c0 t0 y) :
    datas l = ps0 ∧ decide (x.toNat = 3) = t0 := by
  obtain ⟨h1, h2, h3, h4⟩ := h _ _ _ _ _ g
  have n1 := (Blk.berr_ok g.ok).2.1
  have n4 := (Blk.berr_ok g.ok).2.2.1
  have hx : ¬ x.toNat = 31 := by rcases hx with h | h; exact h; omega
  by_cases hz : l.length = 0
  · rw [if_pos hz] at h4; subst h4; exact absurd rfl hx
  · rw [if_neg hz] at h4
    have hn : l.length = ps0.length := by
      rcases Nat.lt_or_ge l.length ps0.length with h | h
      · have := Prs.endC_mid' t0 ps0.length (l.length - 1) (by omega)
        rw [← h4] at this
        exact absurd this hx
      · omega
    refine ⟨by rw [h3, hn, List.take_length], ?_⟩
    have := (Prs.endC_end' t0 ps0.length (l.length - 1) (by omega)).2
    rw [← h4] at this
    cases t0 <;> simp_all

def zBlk (w : World) (g : Nat) : Prop := BlkAt w g (.string ⟨#[]⟩) (.slice none 0 0) (.bool false) (.bool false)

theorem blk_set1 {w : World} {g : Nat} {h v c t x : Value} (k : BlkAt w g h v c t) : BlkAt (w.setCell ⟨g, 1, none⟩ x) g h x c t := Go.Joins.block_setCell (i := 1) k x
theorem blk_set2 {w : World} {g : Nat} {h v c t x : Value} (k : BlkAt w g h v c t) : BlkAt (w.setCell ⟨g, 2, none⟩ x) g h v x t := Go.Joins.block_setCell (i := 2) k x
theorem blk_set3 {w : World} {g : Nat} {h v c t x : Value} (k : BlkAt w g h v c t) : BlkAt (w.setCell ⟨g, 3, none⟩ x) g h v c x := Go.Joins.block_setCell (i := 3) k x
theorem blk_other {w : World} {g g' o : Nat} {h v c t x : Value} (k : BlkAt w g h v c t) (hg : g' ≠ g) : BlkAt (w.setCell ⟨g', o, none⟩ x) g h v c t := (Below.heap_setCell _ _ _ _ (by simpa using Ne.symm hg)).trans k
theorem blk_alloc {w : World} {g : Nat} {h v c t : Value} (k : BlkAt w g h v c t) (o : Obj) : BlkAt (w.alloc o) g h v c t := (Below.heap_alloc _ _ _ (lt_of_block k)).trans k
theorem blk_free {w : World} {g : Nat} {h v c t : Value} (k : BlkAt w g h v c t) (i : Nat) : w.frozen? ⟨g, i, none⟩ = false := Go.Joins.unfrozen_of_block k i

theorem noCtl_ok (u : UInt8) (h : Blk.isCtl u = false) : noCtl u = true := by simp [noCtl, h]

theorem opening_is (h : ByteArray) (a : Option Addr) (n cap : Nat) (c t : Bool) (w : World) (hh : h.size ≤ 140737488352000) :
    Calls Try.prog 60 #[.agg #[.string h, .slice a n cap, .bool c, .bool t]] w fun e w' => ∃ r, e = .returned (.string r) ∧ Hid (Is r (Blk.openL h.data.toList c)) ∧ r.size ≤ h.size + 3 ∧ Below w.heap.size w w' :=
  (opening_any h a n cap c t w hh).mono fun e w' ⟨he, hb⟩ => ⟨_, he, Is.mk _, by rw [(Is.mk _).size]; have := Blk.openL_length h.data.toList c; rw [size_list] at this; omega, hb⟩

theorem mem_snoc_le {l : List ByteArray} {r : ByteArray} {m : Nat} (h : ∀ x ∈ l, x.size ≤ m) (hr : r.size ≤ m) : ∀ x ∈ l ++ [r], x.size ≤ m := by
  intro x hx
  rcases List.mem_append.1 hx with h1 | h1
  · exact h x h1
  · simp at h1; subst h1; exact hr

def partsLen (w : World) (g : Nat) : Nat := match w.cell? ⟨g, 1, none⟩ with | some (.slice _ n _) => n | _ => 0
theorem partsLen_at {w : World} {g : Nat} {h c t : Value} {a : Option Addr} {n cap : Nat} (k : BlkAt w g h (.slice a n cap) c t) : partsLen w g = n := by unfold partsLen; rw [k.cell1]

theorem results_blk {fn : Func} {k : Tmp} (hf : fn.results = #[.cell k 30]) (tmps : Array Value) (w : World) (g : Nat) {h v c t : Value} (ht : tmps.getD k undef = .pointer (some ⟨g, 0, none⟩)) (hb : BlkAt w g h v c t) :
    (results fn tmps).run Try.prog w = .ok (.agg #[h, v, c, t]) w := by
  have c0 := hb.cell0
  have c1 := hb.cell1
  have c2 := hb.cell2
  have c3 := hb.cell3
  simp only [Array.getD_eq_getD_getElem?] at ht
  simp [results, hf, ht, go_sem, c0, c1, c2, c3]

theorem blk_all {w : World} {g : Nat} {h v c t h' v' c' t' : Value} (k : BlkAt w g h v c t) : BlkAt ((((w.setCell ⟨g, 0, none⟩ h').setCell ⟨g, 1, none⟩ v').setCell ⟨g, 2, none⟩ c').setCell ⟨g, 3, none⟩ t') g h' v' c' t' := by
  have k0 : BlkAt (w.setCell ⟨g, 0, none⟩ h') g h' v c t := Go.Joins.block_setCell (i := 0) k h'
  exact blk_set3 (blk_set2 (blk_set1 k0))

/-- What a search for a block answers: the block, where there is one. -/
def FoundAns (kk : Int) (s : ByteArray) (w : World) (e : Ending) (w' : World) : Prop :=
  ∃ (h : ByteArray) (v : Value) (l : List ByteArray) (c t : Bool), e = .returned (.agg #[.string h, v, .bool c, .bool t]) ∧ h.size ≤ s.size ∧ Hid (∀ r ∈ l, r.size ≤ s.size) ∧ l.length ≤ 5 ∧ OwnS w' w.heap.size v l ∧ Hid (∀ h0 ps0 c0 t0 y, Prs.Good kk s.data.toList h0 ps0 c0 t0 y → h.data.toList = h0 ∧ datas l = ps0 ∧ c = c0 ∧ t = t0) ∧ Below w.heap.size w w'
theorem OwnS.mono {w : World} {B B' : Nat} {v : Value} {l : List ByteArray} (h : OwnS w B v l) (hB : B' ≤ B) : OwnS w B' v l := by
  obtain ⟨h1, h2⟩ := h
  refine ⟨h1, ?_⟩
  rcases h2 with h2 | ⟨g, cap, cur, hv, hg, r⟩
  · exact Or.inl h2
  · exact Or.inr ⟨g, cap, cur, hv, by omega, r⟩

set_option maxHeartbeats 4000000 in
theorem foundBlock_any (s : ByteArray) (kk : Int) (w : World) (hs : s.size ≤ 140737488352000) (hkk : kk = 0 ∨ kk = 1) :
    Calls Try.prog 68 #[.string s, .int .i64 kk] w fun e w' => FoundAns kk s w e w' := by
  have HK := hide hkk
  have hk1 : 0 ≤ kk ∧ kk ≤ 1 := by omega
  clear hkk
  go_enter Try.func68, Try.ntmps68
  go_wp2_with (first | (go_at_call 77; refine (foundHead_any s _ hs).mono ?_; rintro e w1 ⟨h, rfl, HH, hh, rfl⟩) | (go_at_call 78; refine (foundClear_any s h _ hs hh).mono ?_; rintro e w1 ⟨rfl, rfl⟩))
  generalize hcl : Prs.clearP s.data.toList h.data.toList = c at *
  have HG : Hid (∀ h0 ps0 c0 t0 y, Prs.Good kk s.data.toList h0 ps0 c0 t0 y → h.data.toList = h0 ∧ c = c0) := by
    intro h0 ps0 c0 t0 y g
    have q := g.head noCtl noCtl_ok rfl rfl
    have e1 : h.data.toList = h0 := by rw [HH.out.data]; exact q.1
    refine ⟨e1, ?_⟩
    rw [← hcl, e1]
    exact q.2
  have HZ := hide (blk_alloc (BlkAt.new w (.string ⟨#[]⟩) (.slice none 0 0) (.bool false) (.bool false)) (.cells #[.string h, .slice none 0 0, .bool c, .bool false] 30))
  have HB := hide (BlkAt.new (w.alloc (.cells #[.string ⟨#[]⟩, .slice none 0 0, .bool false, .bool false] 30)) (.string h) (.slice none 0 0) (.bool c) (.bool false))
  have HW : Hid (Below w.heap.size w ((w.alloc (.cells #[.string ⟨#[]⟩, .slice none 0 0, .bool false, .bool false] 30)).alloc (.cells #[.string h, .slice none 0 0, .bool c, .bool false] 30))) := ((Below.refl _ _).alloc (Nat.le_refl _) _).alloc (by simp) _
  clear hcl HH
  refine (opening_is h none 0 0 c false _ (by omega)).mono ?_
  rintro e w2 ⟨r2, rfl, HR2, hr2, hb2⟩
  have hz2 := HZ.out.below hb2 (by simp; omega)
  have hB2 := HB.out.below hb2 (by simp)
  have hw2 := below_step HW.out hb2
  have hS2 : OwnS w2 (w.heap.size + 2) (.slice none 0 0) [] := OwnS.nil _ _
  have hsz2 : w.heap.size + 2 ≤ w2.heap.size := by have := hb2.size; simp at this; omega
  simp only [World.size_alloc] at hB2
  have HS := hide (FInv.start kk s h c r2.size HR2.out.size HG.out)
  clear HZ HB HW hb2 HR2
  go_wp2
  go_loopw [7, 8] (fun i u wr => ∃ (k : Nat) (x : UInt8) (l : List ByteArray) (v : Value), i = .int .i64 k ∧ u = .int .u8 x.toNat ∧ l.length ≤ 5 ∧ k ≤ s.size + 3 + 2 * l.length ∧ Hid (∀ r ∈ l, r.size ≤ s.size) ∧ Hid (FInv kk s k x l) ∧ OwnS wr (w.heap.size + 2) v l ∧ zBlk wr w.heap.size ∧ BlkAt wr (w.heap.size + 1) (.string h) v (.bool c) (.bool false) ∧ w.heap.size + 2 ≤ wr.heap.size ∧ Below w.heap.size w wr) (fun _ _ wr => 6 - partsLen wr (w.heap.size + 1))
  case atStart => exact ⟨r2.size, 31, [], .slice none 0 0, rfl, rfl, by simp, by simp; omega, by simp [Hid], HS, hS2, hz2, hB2, hsz2, hw2⟩
  case round =>
    obtain ⟨k, x, l, v, rfl, rfl, hl5, hk, HL, HF, hS, hz, hB, hsz, hbel⟩ := hrel
    obtain ⟨a, cap, rfl, _⟩ := hS.texts
    have HPL := hide (partsLen_at hB)
    have f1 := hB.cell1
    have f2 := hB.cell2
    by_cases hgo : x.toNat = 31 ∧ l.length ≤ 4
    · have d1 : ((x.toNat : Int) == 31) = true := by simp [hgo.1]
      have d2 : (l.length : Int) ≤ 4 := by omega
      have HX := hide hgo.1
      have hl4 := hgo.2
      clear hgo
      have HS := hide hS
      have HZ := hide hz
      have HB := hide hB
      clear hS hz hB
      go_wp2_with (first | (go_at_call 79; refine (foundPart_any s k c _ hs (by omega)).mono ?_; rintro e w1 ⟨r, u, nx, rfl, HA, hr, hnx, hb1⟩; have f3 := (HB.out.below hb1 (lt_of_block HB.out)).cell1) | (at_builtin; refine app_txt _ r rfl (.tmp 42) (.tmp 44) rfl (w.heap.size + 2) _ l _ 1 rfl rfl rfl (HS.out.below hb1) (by omega) w1 (Below.refl _ _) (by have := hb1.size; omega) ?_; intro v2 W2 hS2 hbel2 hB2; obtain ⟨a2, cap2, rfl, _⟩ := hS2.texts; rw [List.length_append] at hS2; have HS2 := hide hS2; clear hS2; have f4 := ((HB.out.below hb1 (lt_of_block HB.out)).below hbel2 (by omega)).cell1; have f5 := blk_free ((HB.out.below hb1 (lt_of_block HB.out)).below hbel2 (by omega)) 1) | (go_at_call 80; refine (checkLength_any kk _ HK.out).mono ?_; rintro e w1 ⟨rfl, rfl⟩))
      go_roundw
      case rel =>
        refine ⟨nx + (kk.toNat + 1), u, l ++ [r], .slice a2 (l.length + 1) cap2, by go_num, rfl, by simp; omega, by simp; omega, mem_snoc_le HL.out hr, HF.out.step HX.out HA.out (fun h0 ps0 c0 t0 y g => (HG.out _ _ _ _ _ g).2) rfl, HS2.out.setCell (by omega), ?_, ?_, by simp; omega, ?_⟩
        · exact blk_other ((HZ.out.below hb1 (lt_of_block HZ.out)).below hbel2 (by omega)) (by omega)
        · exact blk_set1 ((HB.out.below hb1 (lt_of_block HB.out)).below hbel2 (by omega))
        · exact ((below_step hbel hb1).trans (hbel2.mono (by omega))).setCell (by simp) _
      case measure =>
        rw [HPL.out, partsLen_at (blk_set1 ((HB.out.below hb1 (lt_of_block HB.out)).below hbel2 (by omega)))]
        simp
        omega
    · have HS := hide hS
      have HZ := hide hz
      have HB := hide hB
      have f3 := hB.cell3
      have f0 := hB.cell0
      have q3 := blk_free hB 3
      have z0 := hz.cell0
      have z1 := hz.cell1
      have z2 := hz.cell2
      have z3 := hz.cell3
      have y0 := blk_free hz 0
      have y1 := blk_free hz 1
      have y2 := blk_free hz 2
      have y3 := blk_free hz 3
      clear hS hz hB
      by_cases h31 : x.toNat = 31
      · have d1 : ((x.toNat : Int) == 31) = true := by simp [h31]
        have d2 : ¬ (l.length : Int) ≤ 4 := by omega
        have HX : Hid (¬ x.toNat = 31 ∨ 4 < l.length) := Or.inr (by omega)
        clear hgo h31
        go_wp2
        (try simp only [Exit.inBlock, Exit.then])
        refine bodyPost_ret (results_blk rfl _ _ w.heap.size rfl (blk_all (blk_other HZ.out (by omega)))) rfl ?_
        refine ⟨h, _, l, c, ((x.toNat : Int) == 3), rfl, hh, HL, hl5, ((((((HS.out.setCell (by omega)).setCell (by omega)).setCell (by omega)).setCell (by omega)).setCell (by omega)).mono (by omega)), ?_, ((((hbel.setCell (by simp) _).setCell (by simp) _).setCell (by simp) _).setCell (by simp) _).setCell (by simp) _⟩
        intro h0 ps0 c0 t0 y g
        have q := HF.out.fin HX.out g
        have q2 := HG.out _ _ _ _ _ g
        refine ⟨q2.1, q.1, q2.2, ?_⟩
        rw [← q.2, Bool.eq_iff_iff]
        simp only [decide_eq_true_eq, beq_iff_eq]
        omega
      · have d1 : ((x.toNat : Int) == 31) = false := by simp; omega
        have HX : Hid (¬ x.toNat = 31 ∨ 4 < l.length) := Or.inl h31
        clear hgo h31
        go_wp2
        (try simp only [Exit.inBlock, Exit.then])
        refine bodyPost_ret (results_blk rfl _ _ w.heap.size rfl (blk_all (blk_other HZ.out (by omega)))) rfl ?_
        refine ⟨h, _, l, c, ((x.toNat : Int) == 3), rfl, hh, HL, hl5, ((((((HS.out.setCell (by omega)).setCell (by omega)).setCell (by omega)).setCell (by omega)).setCell (by omega)).mono (by omega)), ?_, ((((hbel.setCell (by simp) _).setCell (by simp) _).setCell (by simp) _).setCell (by simp) _).setCell (by simp) _⟩
        intro h0 ps0 c0 t0 y g
        have q := HF.out.fin HX.out g
        have q2 := HG.out _ _ _ _ _ g
        refine ⟨q2.1, q.1, q2.2, ?_⟩
        rw [← q.2, Bool.eq_iff_iff]
        simp only [decide_eq_true_eq, beq_iff_eq]
        omega
end Go.Proofs.Ytlbpjcphhocdkaa
