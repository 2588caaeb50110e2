/- A line is opened, and looked at. -/
import Derived.Test.YtlbpjcphhocdkaaOp3
namespace Go.Proofs.Ytlbpjcphhocdkaa
set_option maxRecDepth 1000000
open Go.RowKit Go.Proofs.Ytlbpjcphhocdkaa.Mod Go.Proofs.Ytlbpjcphhocdkaa.Pst

theorem Try.infoPair : (Try.prog.info? 70).map (fun i => (i.zero, i.size, i.bytes)) = some (some (.pointer none), 1, 8) := by kernel_rfl

section
variable {ops : Array Oper} {rest : List Oper} {o : Oper} {a : Act} {Q : Exit → Act → World → Prop}
/-- One pointer behind a list of them. -/
theorem app_ptr (W : World) (p : Option Addr) (hgd : o.guard = none) (sl x : Operand)
    (ho : o.op = .call { callee := .builtin .append, args := #[sl, x], argTypes := #[66, 66] })
    (B : Nat) (v : Value) (l : List Value) (g cp : Nat) (hs : a.eval sl = v) (hx : a.eval x = .slice (some ⟨g, 0, none⟩) 1 cp) (hg0 : g = W.heap.size) (hown : W.ownsRow B 70 1 v l.length l)
    (hlen : l.length ≤ 10000000000000) (hB : B ≤ W.heap.size)
    (h : ∀ v' W', W'.ownsRow B 70 1 v' (l.length + 1) (l ++ [.pointer p]) → (W.alloc (.cells #[.pointer p] 70)).grownBy W' v.ownBlock → wpList Try.prog ops Q rest (a.put o.dst v') W') :
    wpList Try.prog ops Q (o :: rest) a (W.alloc (.cells #[.pointer p] 70)) := by
  obtain ⟨i0, hi, hz0, hz1, hz2⟩ := info_parts Try.infoPair
  subst hg0
  refine wpList_append_own _ hgd sl x 66 ho B 70 i0 _ 1 8 Try.underlying66 hi hz0 hz1 hz2 rfl (by decide) v l.length l hs (World.ownsRow.alloc hown _) ⟨W.heap.size, 0, none⟩ 1 cp [.pointer p] hx rfl
    (cell_one_new _ _ _) (by intro u hu; simp at hu; subst hu; rfl) (by unfold maxLen; omega) (by omega) (by simp; omega) ?_
  intro v' W' ho' hg _
  exact h v' W' ho' hg
end

/-- What opening a line leaves, where there was none. -/
def Opened (wb : Nat) (may : Bool) (w' : World) : Prop :=
  (may = false ∧ w'.cell? ⟨wb, 0, none⟩ = some (.slice none 0 0)) ∨
  ∃ (lb cap pb xb yb : Nat) (c : Cfg) (F G : Nat → Prop), w'.cell? ⟨wb, 0, none⟩ = some (.slice (some ⟨lb, 0, none⟩) 1 cap) ∧ w'.cell? ⟨lb, 0, none⟩ = some (.pointer (some ⟨pb, 0, none⟩)) ∧ PairAt w' pb xb yb ∧ LnAt w' F xb c (newP 0) (newP 1) ∧ RLn w' G yb c 0 newRS newRS [] []

theorem RLn.below {w w' : World} {F : Nat → Prop} {yb : Nat} {c : Cfg} {now : Nat} {r0 r1 : RS} {on0 on1 : List UInt8} (h : RLn w F yb c now r0 r1 on0 on1) (k : Below w.heap.size w w') : RLn w' F yb c now r0 r1 on0 on1 := by
  obtain ⟨sl, ob, b0, b1, F0, F1, h0, h1, n, a1, a2, a3, a4, a5, r⟩ := h.at'
  exact ⟨sl, ob, b0, b1, F0, F1, h0.below k, h1.below k, n, a1, a2, a3, fun g hg => ⟨(a4 g hg).1, Nat.lt_of_lt_of_le (a4 g hg).2 k.size⟩, fun g hg => ⟨(a5 g hg).1, Nat.lt_of_lt_of_le (a5 g hg).2 k.size⟩, r⟩

theorem view_new : viewV newRS.mode newRS.q.length newRS.busy = .agg #[.int .i64 0, .int .i64 0, .bool false] := rfl
theorem view_newP (i : Nat) : viewV (newP i).mode (newP i).q.length (newP i).busy = .agg #[.int .i64 0, .int .i64 0, .bool false] := rfl
/-- Both may be looked at. -/
theorem looks_new (pb xb yb : Nat) (c : Cfg) (F G : Nat → Prop) (w : World) (hp : PairAt w pb xb yb) (hl : LnAt w F xb c (newP 0) (newP 1)) (hr : RLn w G yb c 0 newRS newRS [] []) :
    Calls Try.prog 53 #[.pointer (some ⟨pb, 0, none⟩)] w fun e w' => e = .returned (.bool true) ∧ Below w.heap.size w w' := by
  refine looks_any pb w fun st w1 hst hb => ?_
  have hp1 : PairAt w1 pb xb yb := (hb.block _ (lt_of_block hp)).trans hp
  have hl1 := hl.keep hb.size fun g _ hg => hb.block g hg
  have hr1 := hr.below hb
  refine ⟨seen_any pb xb yb st 0 0 false w1 hp1 (fun w2 hb2 => ?_) (fun w2 hb2 => ?_), heard_pair pb xb yb st ⟨#[]⟩ w1 hp1 (fun w2 hb2 => ?_) (fun w2 hb2 => ?_)⟩
  · refine (look_any F xb c (newP 0) (newP 1) st w2 (hl1.keep hb2.size fun g _ hg => hb2.block g hg)).mono ?_
    rintro e w' ⟨rfl, h⟩
    refine ⟨?_, h⟩
    rcases hst with rfl | rfl
    · rw [if_pos rfl, view_newP]
    · rw [if_neg (by decide), if_pos rfl, view_newP]
  · obtain ⟨sl, ob, b0, b1, F0, F1, h0, h1, _⟩ := (hr1.below hb2).at'
    rcases hst with rfl | rfl
    · refine (rlook_one F0 ⟨yb, sl, ob, b0, 0⟩ c 0 newRS [] 0 w2 h0 (by simp)).mono ?_
      rintro e w' ⟨rfl, h⟩
      exact ⟨by rw [view_new], h⟩
    · refine (rlook_one F1 ⟨yb, sl, ob, b1, 1⟩ c 0 newRS [] 1 w2 h1 (by simp)).mono ?_
      rintro e w' ⟨rfl, h⟩
      exact ⟨by rw [view_new], h⟩
  · refine (onLine_any F xb c (newP 0) (newP 1) st w2 (hl1.keep hb2.size fun g _ hg => hb2.block g hg)).mono ?_
    rintro e w' ⟨rfl, h⟩
    refine ⟨?_, h⟩
    rcases hst with rfl | rfl
    · rw [if_pos rfl]; rfl
    · rw [if_neg (by decide), if_pos rfl]; rfl
  · obtain ⟨sl, ob, b0, b1, F0, F1, h0, h1, _⟩ := (hr1.below hb2).at'
    rcases hst with rfl | rfl
    · exact ronLine_one F0 ⟨yb, sl, ob, b0, 0⟩ c 0 newRS [] 0 w2 h0 (by simp)
    · exact ronLine_one F1 ⟨yb, sl, ob, b1, 1⟩ c 0 newRS [] 1 w2 h1 (by simp)

/-- Ten numbers, in their box. -/
theorem cfgI_keep {w w' : World} {g : Nat} {c0 c1 c2 c3 c4 c5 c6 c7 c8 c9 : Int} (h : CfgIAt w g c0 c1 c2 c3 c4 c5 c6 c7 c8 c9) (k : Below w.heap.size w w') : CfgIAt w' g c0 c1 c2 c3 c4 c5 c6 c7 c8 c9 := h.below k

theorem opened_end {w W0 w1 w2 : World} {wb xb yb cap : Nat} {c : Cfg} (hB : Below w.heap.size w w2) (hlt : wb < w.heap.size) (_hx : W0.heap.size ≤ xb) (hW : w.heap.size ≤ W0.heap.size) (hw1 : w.heap.size ≤ w1.heap.size) (d0 : w2.cell? ⟨wb, 0, none⟩ = some (.slice none 0 0)) (hl : LnAt w2 (New W0) xb c (newP 0) (newP 1)) (hr : RLn w2 (New w1) yb c 0 newRS newRS [] []) (o : Obj) (zs : Array Value) (hz : zs[0]? = some (.pointer (some ⟨w2.heap.size, 0, none⟩))) :
    Opened wb true (((((w2.alloc (.cells #[.pointer (some ⟨xb, 0, none⟩), .pointer (some ⟨yb, 0, none⟩)] 87)).alloc o).alloc (.cells zs 70)).setCell ⟨wb, 0, none⟩ (.slice (some ⟨w2.heap.size + 1 + 1, 0, none⟩) 1 cap)).drew) ∧
    Fr (fun g => g = wb) w (((((w2.alloc (.cells #[.pointer (some ⟨xb, 0, none⟩), .pointer (some ⟨yb, 0, none⟩)] 87)).alloc o).alloc (.cells zs 70)).setCell ⟨wb, 0, none⟩ (.slice (some ⟨w2.heap.size + 1 + 1, 0, none⟩) 1 cap)).drew) := by
  have hs := hB.size
  have hX : Below w2.heap.size w2 (((w2.alloc (.cells #[.pointer (some ⟨xb, 0, none⟩), .pointer (some ⟨yb, 0, none⟩)] 87)).alloc o).alloc (.cells zs 70)) := Below.allocN (Below.allocN (Below.allocN (Below.refl _ _) _) _) _
  have n0 : (((w2.alloc (.cells #[.pointer (some ⟨xb, 0, none⟩), .pointer (some ⟨yb, 0, none⟩)] 87)).alloc o).alloc (.cells zs 70)).heap[w2.heap.size]? = some (.cells #[.pointer (some ⟨xb, 0, none⟩), .pointer (some ⟨yb, 0, none⟩)] 87 (0, 0)) := by
    rw [Below.heap_alloc _ _ _ (by simp; omega), Below.heap_alloc _ _ _ (by simp)]
    exact heap_alloc_new _ _
  have n2 : (((w2.alloc (.cells #[.pointer (some ⟨xb, 0, none⟩), .pointer (some ⟨yb, 0, none⟩)] 87)).alloc o).alloc (.cells zs 70)).heap[w2.heap.size + 1 + 1]? = some (.cells zs 70 (0, 0)) := by
    have := heap_alloc_new ((w2.alloc (.cells #[.pointer (some ⟨xb, 0, none⟩), .pointer (some ⟨yb, 0, none⟩)] 87)).alloc o) (.cells zs 70)
    simpa using this
  generalize (((w2.alloc (.cells #[.pointer (some ⟨xb, 0, none⟩), .pointer (some ⟨yb, 0, none⟩)] 87)).alloc o).alloc (.cells zs 70)) = X at *
  have hXs := hX.size
  have d1 : X.cell? ⟨wb, 0, none⟩ = some (.slice none 0 0) := (hX.cell (by simp only; omega)).trans d0
  have kb : ∀ g, g ≠ wb → ((X.setCell ⟨wb, 0, none⟩ (.slice (some ⟨w2.heap.size + 1 + 1, 0, none⟩) 1 cap)).drew).heap[g]? = X.heap[g]? := fun g hg => Below.heap_setCell _ _ _ _ hg
  refine ⟨Or.inr ⟨w2.heap.size + 1 + 1, cap, w2.heap.size, xb, yb, c, New W0, New w1, World.cell?_setCell_same _ _ _ d1, ?_, (kb _ (by omega)).trans n0, ?_, ?_⟩, ⟨?_, ?_, ?_, ?_, ?_⟩⟩
  · rw [World.cell?_of_block (kb _ (by simp only; omega))]
    simp only [World.cell?, n2]
    exact hz
  · refine hl.keep (by simpa using hXs) fun g hg hgl => ?_
    have hg' : W0.heap.size ≤ g := hg
    rw [kb g (by omega)]
    exact hX.block g hgl
  · refine hr.keep (by simpa using hXs) fun g hg hgl => ?_
    have hg' : w1.heap.size ≤ g := hg
    rw [kb g (by omega)]
    exact hX.block g hgl
  · exact hX.os.trans hB.os
  · exact hX.tape.trans hB.tape
  · exact hX.output.trans hB.output
  · simp; omega
  · intro k hk hn
    rw [kb k hn, hX.block k (by omega)]
    exact hB.block k hk

set_option maxHeartbeats 2000000 in
theorem opened_new (wb : Nat) (c0 c1 c2 c3 c4 c5 c6 c7 c8 c9 : Int) (w : World) (hw : w.heap[wb]? = some (.cells #[.slice none 0 0, .slice none 0 0] 69 (0, 0))) :
    Calls Try.prog 52 #[.pointer (some ⟨wb, 0, none⟩), .agg #[.int .i64 c0, .int .i64 c1, .int .i64 c2, .int .i64 c3, .int .i64 c4, .int .i64 c5, .int .i64 c6, .int .i64 c7, .int .i64 c8, .int .i64 c9]] w fun e w' => e = .returned (.bool true) ∧ Opened wb (mayI c0 c1 c2 c3 c4 c5 c6 c7 c8 c9) w' ∧ Fr (fun g => g = wb) w w' := by
  have hlt := lt_of_block hw
  have HW := hide hw
  have X0 : CfgIAt (w.alloc (.cells #[.int .i64 c0, .int .i64 c1, .int .i64 c2, .int .i64 c3, .int .i64 c4, .int .i64 c5, .int .i64 c6, .int .i64 c7, .int .i64 c8, .int .i64 c9] 42)) w.heap.size c0 c1 c2 c3 c4 c5 c6 c7 c8 c9 := CfgI.at rfl _ _ _ _ _ _ _ _ _ _
  have hb0 := (Below.refl w.heap.size w).alloc (Nat.le_refl _) (.cells #[.int .i64 c0, .int .i64 c1, .int .i64 c2, .int .i64 c3, .int .i64 c4, .int .i64 c5, .int .i64 c6, .int .i64 c7, .int .i64 c8, .int .i64 c9] 42)
  have HB0 := hide hb0
  have HX0 := hide X0
  clear hw X0 hb0
  cases hm : mayI c0 c1 c2 c3 c4 c5 c6 c7 c8 c9
  · have HM := hide hm
    clear hm
    go_enter Try.func52, Try.ntmps52
    go_wp2_with fail
    generalize w.alloc (.cells #[.int .i64 c0, .int .i64 c1, .int .i64 c2, .int .i64 c3, .int .i64 c4, .int .i64 c5, .int .i64 c6, .int .i64 c7, .int .i64 c8, .int .i64 c9] 42) = W0 at *
    refine (new_no c0 c1 c2 c3 c4 c5 c6 c7 c8 c9 _ HM.out).mono ?_
    rintro e w1 ⟨rfl, hb1⟩
    have HX1 := hide (HX0.out.below hb1)
    have HB1 := hide (below_step HB0.out hb1)
    obtain ⟨k0, k1, k2, k3, k4, k5, k6, k7, k8, k9⟩ := HX1.out.all
    clear hb1
    go_wp2_with fail
    refine (rnew_no c0 c1 c2 c3 c4 c5 c6 c7 c8 c9 _ HM.out).mono ?_
    rintro e w2 ⟨rfl, hb2⟩
    have HB2 := hide (below_step HB1.out hb2)
    clear hb2 k0 k1 k2 k3 k4 k5 k6 k7 k8 k9
    go_wp2
    go_ret
    exact ⟨rfl, Or.inl ⟨rfl, (HB2.out.cell hlt).trans ((cells_at HW.out).1 0)⟩, Fr.of_below HB2.out⟩
  · obtain ⟨c, hc, rfl, rfl, rfl, rfl, rfl, rfl, rfl, rfl, rfl, rfl⟩ := may_cfg _ _ _ _ _ _ _ _ _ _ hm
    have HC := hide hc
    clear hm hc
    go_enter Try.func52, Try.ntmps52
    go_wp2_with fail
    generalize w.alloc (.cells #[.int .i64 (c.check : Int), _, _, _, _, _, _, _, _, _] 42) = W0 at *
    refine (new_ok c _ HC.out).mono ?_
    rintro e w1 ⟨xb, rfl, hxb, hl1, hb1⟩
    have HX1 := hide (HX0.out.below hb1)
    have HB1 := hide (below_step HB0.out hb1)
    have HL1 := hide hl1
    obtain ⟨k0, k1, k2, k3, k4, k5, k6, k7, k8, k9⟩ := HX1.out.all
    clear hb1 hl1
    go_wp2_with fail
    refine (rnew_ok c _ HC.out).mono ?_
    rintro e w2 ⟨yb, rfl, hr2, hb2⟩
    have HB2 := hide (below_step HB1.out hb2)
    have HL2 := hide (HL1.out.keep hb2.size fun g _ hg => hb2.block g hg)
    have HR2 := hide hr2
    have d0 : w2.cell? ⟨wb, 0, none⟩ = some (.slice none 0 0) := (HB2.out.cell hlt).trans ((cells_at HW.out).1 0)
    have dz : w2.frozen? ⟨wb, 0, none⟩ = false := (HB2.out.frozen hlt).trans ((cells_at HW.out).2 0)
    have hlt2 : wb < w2.heap.size := by have := HB2.out.size; omega
    have hne2 : wb ≠ w2.heap.size := by omega
    clear hb2 hr2 k0 k1 k2 k3 k4 k5 k6 k7 k8 k9
    have dd : ∀ x y z, (((w2.alloc x).alloc y).alloc z).cell? ⟨wb, 0, none⟩ = some (.slice none 0 0) := fun x y z => (Below.cell (Below.allocN (Below.allocN (Below.allocN (Below.refl w2.heap.size w2) x) y) z) hlt2).trans d0
    have ddz : ∀ x y z, (((w2.alloc x).alloc y).alloc z).frozen? ⟨wb, 0, none⟩ = false := fun x y z => (Below.frozen (Below.allocN (Below.allocN (Below.allocN (Below.refl w2.heap.size w2) x) y) z) hlt2).trans dz
    go_wp2
    go_ret
    exact ⟨rfl, opened_end HB2.out hlt hxb (by have := HB0.out.size; omega) HB1.out.size d0 HL2.out HR2.out _ _ (by rw [Array.getElem?_append_left (by simp)]; rfl)⟩

end Go.Proofs.Ytlbpjcphhocdkaa
