/- The program's Read, whole. -/
import Derived.Test.YtlbpjcphhocdkaaRd4
namespace Go.Proofs.Ytlbpjcphhocdkaa
open Go.RowKit

/-- Block g holds the five cells of what is heard. -/
def HrdAt (w : World) (g : Nat) (n h v c t : Value) : Prop := w.heap[g]? = some (.cells #[n, h, v, c, t] 36 (0, 0))

theorem HrdAt.cell {w : World} {g : Nat} {n h v c t : Value} (k : HrdAt w g n h v c t) : w.cell? ⟨g, 0, none⟩ = some n ∧ w.cell? ⟨g, 1, none⟩ = some h ∧ w.cell? ⟨g, 2, none⟩ = some v ∧ w.cell? ⟨g, 3, none⟩ = some c ∧ w.cell? ⟨g, 4, none⟩ = some t := by
  unfold HrdAt at k; simp [World.cell?, k]
theorem HrdAt.free {w : World} {g : Nat} {n h v c t : Value} (k : HrdAt w g n h v c t) (i : Nat) : w.frozen? ⟨g, i, none⟩ = false := Go.Joins.unfrozen_of_block k i
theorem HrdAt.new (w : World) (n h v c t : Value) : HrdAt (w.alloc (.cells #[n, h, v, c, t] 36)) w.heap.size n h v c t := heap_alloc_new w _
theorem HrdAt.below {w w' : World} {g B : Nat} {n h v c t : Value} (k : HrdAt w g n h v c t) (hb : Below B w w') (hg : g < B) : HrdAt w' g n h v c t := (hb.block g hg).trans k
theorem HrdAt.alloc {w : World} {g : Nat} {n h v c t : Value} (k : HrdAt w g n h v c t) (o : Obj) : HrdAt (w.alloc o) g n h v c t := (Below.heap_alloc _ _ _ (lt_of_block k)).trans k
theorem HrdAt.all {w : World} {g : Nat} {n h v c t n' h' v' c' t' : Value} (k : HrdAt w g n h v c t) : HrdAt (((((w.setCell ⟨g, 0, none⟩ n').setCell ⟨g, 1, none⟩ h').setCell ⟨g, 2, none⟩ v').setCell ⟨g, 3, none⟩ c').setCell ⟨g, 4, none⟩ t') g n' h' v' c' t' := by
  have k0 : HrdAt (w.setCell ⟨g, 0, none⟩ n') g n' h v c t := Go.Joins.block_setCell (i := 0) k n'
  have k1 : HrdAt ((w.setCell ⟨g, 0, none⟩ n').setCell ⟨g, 1, none⟩ h') g n' h' v c t := Go.Joins.block_setCell (i := 1) k0 h'
  have k2 : HrdAt (((w.setCell ⟨g, 0, none⟩ n').setCell ⟨g, 1, none⟩ h').setCell ⟨g, 2, none⟩ v') g n' h' v' c t := Go.Joins.block_setCell (i := 2) k1 v'
  have k3 : HrdAt ((((w.setCell ⟨g, 0, none⟩ n').setCell ⟨g, 1, none⟩ h').setCell ⟨g, 2, none⟩ v').setCell ⟨g, 3, none⟩ c') g n' h' v' c' t := Go.Joins.block_setCell (i := 3) k2 c'
  exact Go.Joins.block_setCell (i := 4) k3 t'
theorem results_hrd {fn : Func} {k : Tmp} (hf : fn.results = #[.cell k 36]) (tmps : Array Value) (w : World) (g : Nat) {n h v c t : Value} (ht : tmps.getD k undef = .pointer (some ⟨g, 0, none⟩)) (hb : HrdAt w g n h v c t) :
    (results fn tmps).run Try.prog w = .ok (.agg #[n, h, v, c, t]) w := by
  obtain ⟨c0, c1, c2, c3, c4⟩ := hb.cell
  simp only [Array.getD_eq_getD_getElem?] at ht
  simp [results, hf, ht, go_sem, c0, c1, c2, c3, c4]
theorem below_five {w w' : World} {B g : Nat} (h : Below B w w') (hg : B ≤ g) (a b c d e : Value) : Below B w (((((w'.setCell ⟨g, 0, none⟩ a).setCell ⟨g, 1, none⟩ b).setCell ⟨g, 2, none⟩ c).setCell ⟨g, 3, none⟩ d).setCell ⟨g, 4, none⟩ e) :=
  ((((h.setCell hg _).setCell hg _).setCell hg _).setCell hg _).setCell hg _
theorem own_five {w : World} {B g : Nat} {v : Value} {l : List ByteArray} (h : OwnS w B v l) (hg : g < B) (a b c d e : Value) : OwnS (((((w.setCell ⟨g, 0, none⟩ a).setCell ⟨g, 1, none⟩ b).setCell ⟨g, 2, none⟩ c).setCell ⟨g, 3, none⟩ d).setCell ⟨g, 4, none⟩ e) B v l :=
  ((((h.setCell hg).setCell hg).setCell hg).setCell hg).setCell hg

/-- What is heard of a rest that begins as a block. -/
def HeardAns (kk : Int) (s : ByteArray) (w : World) (e : Ending) (w' : World) : Prop :=
  ((∃ (h : ByteArray) (v : Value) (l : List ByteArray) (c t : Bool), e = .returned (.agg #[.int .i64 2, .string h, v, .bool c, .bool t]) ∧ OwnS w' w.heap.size v l ∧ Prs.Good kk s.data.toList h.data.toList (datas l) c t [255]) ∨
   (e = .returned (.agg #[.int .i64 1, .string ⟨#[]⟩, .slice none 0 0, .bool false, .bool false]) ∧ ∀ h0 ps0 c0 t0, ¬ Prs.Good kk s.data.toList h0 ps0 c0 t0 [255])) ∧ Below w.heap.size w w'

set_option maxHeartbeats 4000000 in
theorem heardBlock_any (s : ByteArray) (kk : Int) (w : World) (hs : s.size ≤ 140737488352000) (hkk : kk = 0 ∨ kk = 1) :
    Calls Try.prog 50 #[.string s, .int .i64 kk] w fun e w' => HeardAns kk s w e w' := by
  have HK := hide hkk
  clear hkk
  go_enter Try.func50, Try.ntmps50
  have HH0 := hide (HrdAt.new w (.int .i64 0) (.string ⟨#[]⟩) (.slice none 0 0) (.bool false) (.bool false))
  go_wp2_with fail
  refine (foundBlock_any s kk _ hs HK.out).mono ?_
  rintro e w1 ⟨h, v, l, c, t, rfl, hh, HL, hl5, hS, HG, hb1⟩
  obtain ⟨a, cap, rfl, htx⟩ := hS.texts
  have hH1 := HH0.out.below hb1 (by simp)
  have hw1 : Below w.heap.size w w1 := below_step ((Below.refl _ _).alloc (Nat.le_refl _) _) hb1
  have HH2 := hide (hH1.alloc (.cells #[.string h, .slice a l.length cap, .bool c, .bool t] 30))
  have HB2 := hide (BlkAt.new w1 (.string h) (.slice a l.length cap) (.bool c) (.bool t))
  have hb2 : Below w1.heap.size w1 (w1.alloc (.cells #[.string h, .slice a l.length cap, .bool c, .bool t] 30)) := (Below.refl _ _).alloc (Nat.le_refl _) _
  have HW2 := hide (below_step hw1 hb2)
  have HT2 := hide (htx.below hb2)
  have hS2 := hS.below hb2
  simp only [World.size_alloc] at hS2
  have HS2 := hide hS2
  have hlt : w.heap.size < w1.heap.size := lt_of_block hH1
  clear hS hS2 htx hb1 hb2 hH1 hw1 HH0
  have HLL : Hid (∀ r ∈ l, r.size ≤ 140737488352000) := fun r hr => Nat.le_trans (HL.out r hr) hs
  generalize hW2 : w1.alloc (.cells #[.string h, .slice a l.length cap, .bool c, .bool t] 30) = W2 at *
  have hz2 : W2.heap.size = w1.heap.size + 1 := by rw [← hW2]; simp
  have HQ := hide hW2
  clear hW2
  by_cases hz : Blk.berr h.data.toList (datas l) c = 0
  · have HZ := hide hz
    obtain ⟨g1, g2, g3, g4⟩ := Blk.berr_ok hz
    have G1 := Blk.headOk_le g1
    rw [size_list] at G1
    rw [datas_length] at g2 g3
    have G4 := hide (getD_le (Blk.parts_le g4))
    have HBL := hide (Blk.bodyTo_length h.data.toList (datas l) c t kk 32 (Blk.parts_le g4) l.length)
    rw [size_list] at HBL
    obtain ⟨b, o, rfl, hcell⟩ : ∃ b o, a = some ⟨b, o, none⟩ ∧ ∀ i, i < l.length → W2.cell? ⟨b, o + i, none⟩ = some (.string (l.getD i ByteArray.empty)) := by
      rcases HT2.out with h | h
      · subst h; simp at g2
      · exact h
    have HC := hide hcell
    clear hcell g1 g4 hz
    go_wp2_with fail
    rw [HQ.out]
    refine (blockError_any h _ l cap c t _ (by omega) HLL.out (by omega) HT2.out).mono ?_
    rintro e w3 ⟨rfl, hb3⟩
    rw [HZ.out]
    have hB3 := HB2.out.below hb3 (by omega)
    have k0 := hB3.cell0
    have k1 := hB3.cell1
    have k2 := hB3.cell2
    have k3 := hB3.cell3
    have HB3 := hide hB3
    clear hB3
    go_wp2_with fail
    refine (blockBody_any h b o l cap c t kk _ HK.out G1 G4.out (by omega) ?_).mono ?_
    · intro i hi
      exact cell_later hb3 (HC.out i hi)
    rintro e w4 ⟨rfl, hb4⟩
    have hB4 := HB3.out.below hb4 (lt_of_block HB3.out)
    have HZ4 : Hid ((⟨(Blk.body h.data.toList (datas l) c t kk).toArray⟩ : ByteArray).size ≤ 140737488352000) := by
      have h1 := HBL.out
      have h2 : l.length * (h.size + 2 * 32 + 7) ≤ 4 * (8 + 2 * 32 + 7) := Nat.mul_le_mul (by omega) (by omega)
      rw [Hid, (Is.mk _).size]
      unfold Blk.body
      rw [datas_length]
      omega
    go_wp2_with fail
    refine (padded_any _ _ HZ4.out).mono ?_
    rintro e w5 ⟨rfl, hb5⟩
    have hB5 := hB4.below hb5 (lt_of_block hB4)
    have m0 := hB5.cell0
    have m1 := hB5.cell1
    have m2 := hB5.cell2
    have m3 := hB5.cell3
    have hw5 := below_step (below_step hb3 hb4) hb5
    have hH5 := HH2.out.below hw5 (by omega)
    obtain ⟨c0, c1, c2, c3, c4⟩ := hH5.cell
    have y0 := hH5.free 0
    have y1 := hH5.free 1
    have y2 := hH5.free 2
    have y3 := hH5.free 3
    have y4 := hH5.free 4
    have HH5 := hide hH5
    have HW5 := hide hw5
    clear hH5 hw5 hb3 hb4 hb5 hB4 hB5
    by_cases he : s.data.toList = Blk.body h.data.toList (datas l) c t kk ++ [255]
    · have hd : s = ⟨((⟨(Blk.body h.data.toList (datas l) c t kk).toArray⟩ : ByteArray).data.toList ++ [255]).toArray⟩ := (str_eq _ _).2 he
      have HE := hide he
      clear he
      rw [← hd]
      clear hd
      go_wp2
      (try simp only [Exit.inBlock, Exit.then])
      refine bodyPost_ret (results_hrd rfl _ _ w.heap.size rfl (HrdAt.all HH5.out)) rfl ?_
      refine ⟨Or.inl ⟨h, _, l, c, t, rfl, ?_, ⟨HZ.out, HK.out, HE.out⟩⟩, below_five (HW2.out.trans (HW5.out.mono (by omega))) (Nat.le_refl _) _ _ _ _ _⟩
      exact (own_five (HS2.out.below HW5.out) (by omega) _ _ _ _ _).mono (by omega)
    · have hd : ¬ s = ⟨((⟨(Blk.body h.data.toList (datas l) c t kk).toArray⟩ : ByteArray).data.toList ++ [255]).toArray⟩ := fun h => he ((str_eq _ _).1 h)
      have HE := hide he
      clear he
      generalize hr : (⟨((⟨(Blk.body h.data.toList (datas l) c t kk).toArray⟩ : ByteArray).data.toList ++ [255]).toArray⟩ : ByteArray) = r at *
      have hd2 := str_no hd
      clear hr
      go_wp2
      (try simp only [Exit.inBlock, Exit.then])
      refine bodyPost_ret (results_hrd rfl _ _ w.heap.size rfl (HrdAt.all HH5.out)) rfl ?_
      refine ⟨Or.inr ⟨rfl, ?_⟩, below_five (HW2.out.trans (HW5.out.mono (by omega))) (Nat.le_refl _) _ _ _ _ _⟩
      intro h0 ps0 c0 t0 g
      obtain ⟨rfl, rfl, rfl, rfl⟩ := HG.out _ _ _ _ _ g
      exact HE.out g.eq
  · have HZ := hide hz
    generalize hbz : Blk.berr h.data.toList (datas l) c = z at *
    have HBZ := hide hbz
    have hnz : (z != 0) = true := by simp [hz]
    clear hz hbz
    go_wp2_with fail
    rw [HQ.out]
    refine (blockError_any h _ l cap c t _ (by omega) HLL.out (by omega) HT2.out).mono ?_
    rintro e w3 ⟨rfl, hb3⟩
    rw [HBZ.out]
    have hH5 := HH2.out.below hb3 (by omega)
    obtain ⟨c0, c1, c2, c3, c4⟩ := hH5.cell
    have y0 := hH5.free 0
    have y1 := hH5.free 1
    have y2 := hH5.free 2
    have y3 := hH5.free 3
    have y4 := hH5.free 4
    have HH5 := hide hH5
    have HW5 := hide hb3
    clear hH5 hb3
    go_wp2
    (try simp only [Exit.inBlock, Exit.then])
    refine bodyPost_ret (results_hrd rfl _ _ w.heap.size rfl (HrdAt.all HH5.out)) rfl ?_
    refine ⟨Or.inr ⟨rfl, ?_⟩, below_five (HW2.out.trans (HW5.out.mono (by omega))) (Nat.le_refl _) _ _ _ _ _⟩
    intro h0 ps0 c0 t0 g
    obtain ⟨rfl, rfl, rfl, rfl⟩ := HG.out _ _ _ _ _ g
    exact HZ.out (HBZ.out.symm.trans g.ok)
end Go.Proofs.Ytlbpjcphhocdkaa
