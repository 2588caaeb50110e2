/-The station's turn ends; it is put off; it tries again. The station is put off; it tries again. The station tries again. -/
import Derived.Test.YtlbpjcphhocdkabGreatDoorGSa
namespace Go.Proofs.YtlbpjcphhocdkabGreatDoor
open Go.RowKit Go.Proofs.YtlbpjcphhocdkabGreatDoor.Mod Go.Proofs.YtlbpjcphhocdkabGreatDoor.Pst

def evV : Option Ev → Value
  | none => .agg #[.int .i64 0, .int .i64 0, .int .i64 0, .string ⟨#[]⟩, .string ⟨#[]⟩, .bool false]
  | some e => .agg #[.int .i64 e.kind, .int .i64 e.station, .int .i64 e.number, .string ⟨e.msg.head.toArray⟩, .string ⟨e.msg.text.toArray⟩, .bool e.msg.clear]

/-- What a method that answers an event leaves. -/
def Tells (w : World) (F : Nat → Prop) (b o : Nat) (r : PS × Option Ev) (e : Ending) (w' : World) : Prop := e = .returned (evV r.2) ∧ StAt w' (Plus F w) b o r.1 ∧ Bes b o w w'

/-- An event in memory. -/
def EvAt (w : World) (g : Nat) (v0 v1 v2 v3 v4 v5 : Value) : Prop := w.heap[g]? = some (.cells #[v0, v1, v2, v3, v4, v5] 38 (0, 0))
section
variable {w w' : World} {g : Nat} {v0 v1 v2 v3 v4 v5 : Value}
theorem EvAt.lt (h : EvAt w g v0 v1 v2 v3 v4 v5) : g < w.heap.size := lt_of_block h
theorem EvAt.cell (h : EvAt w g v0 v1 v2 v3 v4 v5) : w.cell? ⟨g, 0, none⟩ = some v0 ∧ w.cell? ⟨g, 1, none⟩ = some v1 ∧ w.cell? ⟨g, 2, none⟩ = some v2 ∧ w.cell? ⟨g, 3, none⟩ = some v3 ∧ w.cell? ⟨g, 4, none⟩ = some v4 ∧ w.cell? ⟨g, 5, none⟩ = some v5 := by
  unfold EvAt at h; simp [World.cell?, h]
theorem EvAt.free (h : EvAt w g v0 v1 v2 v3 v4 v5) (i : Nat) : w.frozen? ⟨g, i, none⟩ = false := Go.Joins.unfrozen_of_block h i
theorem EvAt.below (h : EvAt w g v0 v1 v2 v3 v4 v5) (k : Below w.heap.size w w') : EvAt w' g v0 v1 v2 v3 v4 v5 := (k.block g h.lt).trans h
theorem EvAt.bes {b o : Nat} (h : EvAt w g v0 v1 v2 v3 v4 v5) (k : Bes b o w w') (hb : b ≠ g) : EvAt w' g v0 v1 v2 v3 v4 v5 := (k.block g h.lt hb.symm).trans h
theorem EvAt.all {u0 u1 u2 u3 u4 u5 : Value} (h : EvAt w g v0 v1 v2 v3 v4 v5) :
    EvAt ((((((w.setCell ⟨g, 0, none⟩ u0).setCell ⟨g, 1, none⟩ u1).setCell ⟨g, 2, none⟩ u2).setCell ⟨g, 3, none⟩ u3).setCell ⟨g, 4, none⟩ u4).setCell ⟨g, 5, none⟩ u5) g u0 u1 u2 u3 u4 u5 := by
  have k0 : EvAt (w.setCell ⟨g, 0, none⟩ u0) g u0 v1 v2 v3 v4 v5 := Go.Joins.block_setCell (i := 0) h u0
  have k1 : EvAt ((w.setCell ⟨g, 0, none⟩ u0).setCell ⟨g, 1, none⟩ u1) g u0 u1 v2 v3 v4 v5 := Go.Joins.block_setCell (i := 1) k0 u1
  have k2 : EvAt (((w.setCell ⟨g, 0, none⟩ u0).setCell ⟨g, 1, none⟩ u1).setCell ⟨g, 2, none⟩ u2) g u0 u1 u2 v3 v4 v5 := Go.Joins.block_setCell (i := 2) k1 u2
  have k3 : EvAt ((((w.setCell ⟨g, 0, none⟩ u0).setCell ⟨g, 1, none⟩ u1).setCell ⟨g, 2, none⟩ u2).setCell ⟨g, 3, none⟩ u3) g u0 u1 u2 u3 v4 v5 := Go.Joins.block_setCell (i := 3) k2 u3
  have k4 : EvAt (((((w.setCell ⟨g, 0, none⟩ u0).setCell ⟨g, 1, none⟩ u1).setCell ⟨g, 2, none⟩ u2).setCell ⟨g, 3, none⟩ u3).setCell ⟨g, 4, none⟩ u4) g u0 u1 u2 u3 u4 v5 := Go.Joins.block_setCell (i := 4) k3 u4
  exact Go.Joins.block_setCell (i := 5) k4 u5
end
theorem Bes.ev {b o g : Nat} {u w : World} (h : Bes b o u w) (hg : u.heap.size ≤ g) (hb : b < u.heap.size) (u0 u1 u2 u3 u4 u5 : Value) :
    Bes b o u ((((((w.setCell ⟨g, 0, none⟩ u0).setCell ⟨g, 1, none⟩ u1).setCell ⟨g, 2, none⟩ u2).setCell ⟨g, 3, none⟩ u3).setCell ⟨g, 4, none⟩ u4).setCell ⟨g, 5, none⟩ u5) := by
  have one : ∀ (x : World) (k : Nat) (v : Value), Bes b o u x → Bes b o u (x.setCell ⟨g, k, none⟩ v) := by
    intro x k v hx
    have hne : g ≠ b := by omega
    refine ⟨hx.os, hx.tape, hx.output, by simpa using hx.size, fun i hi hn => ?_, fun j hj => ?_, fun j => ?_⟩
    · rw [Below.heap_setCell _ _ _ _ (fun e => by simp at e; omega)]; exact hx.block i hi hn
    · rw [World.cell?_setCell_other _ _ _ _ (fun e => hne (congrArg Addr.block e))]; exact hx.cell j hj
    · rw [World.frozen?_setCell]; exact hx.froz j
  exact one _ _ _ (one _ _ _ (one _ _ _ (one _ _ _ (one _ _ _ (one _ _ _ h)))))
theorem StAt.ev {b o g : Nat} {w : World} {F : Nat → Prop} {s : PS} (h : StAt w F b o s) (hg : g ≠ b) (hF : ∀ v, w.cell? ⟨b, o + 1, none⟩ = some v → v.ownBlock ≠ some g) (u0 u1 u2 u3 u4 u5 : Value) :
    StAt ((((((w.setCell ⟨g, 0, none⟩ u0).setCell ⟨g, 1, none⟩ u1).setCell ⟨g, 2, none⟩ u2).setCell ⟨g, 3, none⟩ u3).setCell ⟨g, 4, none⟩ u4).setCell ⟨g, 5, none⟩ u5) F b o s := by
  have one : ∀ (x : World) (k : Nat) (v : Value), StAt x F b o s → (∀ v, x.cell? ⟨b, o + 1, none⟩ = some v → v.ownBlock ≠ some g) → StAt (x.setCell ⟨g, k, none⟩ v) F b o s ∧ (∀ y, (x.setCell ⟨g, k, none⟩ v).cell? ⟨b, o + 1, none⟩ = some y → y.ownBlock ≠ some g) := by
    intro x k v hx hk
    have hc : ∀ j, (x.setCell ⟨g, k, none⟩ v).cell? ⟨b, j, none⟩ = x.cell? ⟨b, j, none⟩ := fun j => World.cell?_setCell_other _ _ _ _ (fun e => hg (congrArg Addr.block e))
    obtain ⟨q, hq, hQ⟩ := hx.que
    have hgq := hk q hq
    refine ⟨⟨(hc _).trans hx.side, ⟨q, (hc _).trans hq, ?_⟩, (hc _).trans hx.joined, (hc _).trans hx.busy, (hc _).trans hx.put, (hc _).trans hx.mode, (hc _).trans hx.wait, (hc _).trans hx.rest, (hc _).trans hx.tries, (hc _).trans hx.off, (hc _).trans hx.free, (hc _).trans hx.block, (hc _).trans hx.head, (hc _).trans hx.text, (hc _).trans hx.yes, fun j => by rw [World.frozen?_setCell]; exact hx.fz j, hx.nb⟩, fun y hy => hk y ((hc _).symm.trans hy)⟩
    obtain ⟨⟨h1, h2⟩, h3⟩ := hQ
    refine ⟨⟨h1, ?_⟩, h3⟩
    rcases h2 with h2 | ⟨gg, cap, cur, hv, hB, hh, r⟩
    · exact Or.inl h2
    · exact Or.inr ⟨gg, cap, cur, hv, hB, (Below.heap_setCell _ _ _ _ (fun e => hgq (by rw [hv, e]; rfl))).trans hh, r⟩
  have a0 := one _ 0 u0 h hF
  have a1 := one _ 1 u1 a0.1 a0.2
  have a2 := one _ 2 u2 a1.1 a1.2
  have a3 := one _ 3 u3 a2.1 a2.2
  have a4 := one _ 4 u4 a3.1 a3.2
  exact (one _ 5 u5 a4.1 a4.2).1

theorem results_ev {fn : Func} {k : Tmp} (hf : fn.results = #[.cell k 38]) (tmps : Array Value) (w : World) (g : Nat) {v0 v1 v2 v3 v4 v5 : Value} (ht : tmps.getD k undef = .pointer (some ⟨g, 0, none⟩)) (h : EvAt w g v0 v1 v2 v3 v4 v5) :
    (results fn tmps).run Tryz.prog w = .ok (.agg #[v0, v1, v2, v3, v4, v5]) w := by
  obtain ⟨c0, c1, c2, c3, c4, c5⟩ := h.cell
  simp only [Array.getD_eq_getD_getElem?] at ht
  simp [results, hf, ht, go_sem, c0, c1, c2, c3, c4, c5]

theorem Below.setN {w W : World} (h : Below w.heap.size w W) {g : Nat} (hg : w.heap.size ≤ g) (k : Nat) (v : Value) : Below w.heap.size w (W.setCell ⟨g, k, none⟩ v) := h.setCell hg v

/-- The world in which finish's event has been made. -/
theorem finish_region (F : Nat → Prop) (b o : Nat) (s : PS) (w W : World) (h : StAt w F b o s) (hb : Below w.heap.size w W) (c : w.cell? ⟨b, o, none⟩ = some (.int .i64 s.side)) : Below w.heap.size w W ∧ W.cell? ⟨b, o, none⟩ = some (.int .i64 s.side) :=
  ⟨hb, (hb.cell (p := ⟨b, o, none⟩) h.lt).trans c⟩

def zeroEv : Array Value := #[.int .i64 0, .int .i64 0, .int .i64 0, .string ⟨#[]⟩, .string ⟨#[]⟩, .bool false]
/-- The event made, in the two ways. -/
structure FinW (w W : World) (v0 v1 v2 : Value) : Prop where
  bel : Below w.heap.size w W
  ev0 : EvAt W w.heap.size (.int .i64 0) (.int .i64 0) (.int .i64 0) (.string ⟨#[]⟩) (.string ⟨#[]⟩) (.bool false)
  ev1 : EvAt W (w.heap.size + 1) v0 v1 v2 (.string ⟨#[]⟩) (.string ⟨#[]⟩) (.bool false)
theorem fin1 (w : World) (n : Nat) (v0 v1 v2 : Value) : FinW w (((w.alloc (.cells zeroEv 38)).drewN n).alloc (.cells #[v0, v1, v2, .string ⟨#[]⟩, .string ⟨#[]⟩, .bool false] 38)) v0 v1 v2 := by
  have hz : ((w.alloc (.cells zeroEv 38)).drewN n).heap.size = w.heap.size + 1 := by simp [World.drewN]
  have e0 : EvAt ((w.alloc (.cells zeroEv 38)).drewN n) w.heap.size (.int .i64 0) (.int .i64 0) (.int .i64 0) (.string ⟨#[]⟩) (.string ⟨#[]⟩) (.bool false) := heap_alloc_new w _
  refine ⟨Below.allocN (below_drewN (Below.allocN (Below.refl _ _) _) n) _, e0.below ((Below.refl _ _).alloc (Nat.le_refl _) _), ?_⟩
  have := heap_alloc_new ((w.alloc (.cells zeroEv 38)).drewN n) (.cells #[v0, v1, v2, .string ⟨#[]⟩, .string ⟨#[]⟩, .bool false] 38)
  rw [hz] at this
  exact this
theorem fin2 (w : World) (n : Nat) (v0 v1 v2 : Value) : FinW w ((((((((w.alloc (.cells zeroEv 38)).alloc (.cells zeroEv 38)).drewN n).setCell ⟨w.heap.size + 1, 0, none⟩ v0).setCell ⟨w.heap.size + 1, 1, none⟩ v1).setCell ⟨w.heap.size + 1, 2, none⟩ v2).setCell ⟨w.heap.size + 1, 3, none⟩ (.string ⟨#[]⟩)).setCell ⟨w.heap.size + 1, 4, none⟩ (.string ⟨#[]⟩) |>.setCell ⟨w.heap.size + 1, 5, none⟩ (.bool false)) v0 v1 v2 := by
  have hz : (w.alloc (.cells zeroEv 38)).heap.size = w.heap.size + 1 := by simp
  have e0 : EvAt (w.alloc (.cells zeroEv 38)) w.heap.size (.int .i64 0) (.int .i64 0) (.int .i64 0) (.string ⟨#[]⟩) (.string ⟨#[]⟩) (.bool false) := heap_alloc_new w _
  have e1 : EvAt (((w.alloc (.cells zeroEv 38)).alloc (.cells zeroEv 38)).drewN n) (w.heap.size + 1) (.int .i64 0) (.int .i64 0) (.int .i64 0) (.string ⟨#[]⟩) (.string ⟨#[]⟩) (.bool false) := by
    have := heap_alloc_new (w.alloc (.cells zeroEv 38)) (.cells zeroEv 38)
    rw [hz] at this
    exact this
  have hb : Below (w.alloc (.cells zeroEv 38)).heap.size (w.alloc (.cells zeroEv 38)) ((((((((w.alloc (.cells zeroEv 38)).alloc (.cells zeroEv 38)).drewN n).setCell ⟨w.heap.size + 1, 0, none⟩ v0).setCell ⟨w.heap.size + 1, 1, none⟩ v1).setCell ⟨w.heap.size + 1, 2, none⟩ v2).setCell ⟨w.heap.size + 1, 3, none⟩ (.string ⟨#[]⟩)).setCell ⟨w.heap.size + 1, 4, none⟩ (.string ⟨#[]⟩) |>.setCell ⟨w.heap.size + 1, 5, none⟩ (.bool false)) := by
    refine Below.setN (Below.setN (Below.setN (Below.setN (Below.setN (Below.setN (below_drewN (Below.allocN (Below.refl _ _) _) n) ?_ _ _) ?_ _ _) ?_ _ _) ?_ _ _) ?_ _ _) ?_ _ _ <;> simp
  exact ⟨below_step ((Below.refl _ _).alloc (Nat.le_refl _) _) hb, e0.below hb, e1.all⟩

set_option maxHeartbeats 1000000 in
set_option maxRecDepth 1000000 in
theorem finish_any (F : Nat → Prop) (b o : Nat) (s : PS) (k : Nat) (w : World) (h : StAt w F b o s) (hj : s.q.length ≤ s.joined) (hm : s.joined ≤ 1000000000000000) (hn : s.q.length ≤ 100) :
    Calls Tryz.prog 101 #[.pointer (some ⟨b, o, none⟩), .int .i64 k] w fun e w' => Tells w F b o (finish k s) e w' := by
  have hlt := h.lt
  have hne : b ≠ w.heap.size := by omega
  have hne1 : b ≠ w.heap.size + 1 := by omega
  have c0 := h.side
  have H := hide h
  clear h
  go_enter Tryz.func101, Tryz.ntmps101
  go_wp2
  go_region_held3 (fun w' => Below w.heap.size w w' ∧ w'.cell? ⟨b, o, none⟩ = some (.int .i64 s.side)) ((refine finish_region F b o s w _ H.out ?_ c0; repeat' (with_reducible (first | apply Below.drew | apply below_drewN | apply Below.allocN | (refine Below.setN ?_ (by simp) _ _) | exact Below.refl _ _))))
    (first | (go_at_call 118; refine (number_any F b o s _ (H.out.below ?_) hj hm).mono ?_; (repeat' (with_reducible (first | apply Below.drew | apply below_drewN | apply Below.allocN | (refine Below.setN ?_ (by simp) _ _) | exact Below.refl _ _))); rintro e w1 ⟨rfl, n1, rfl⟩))
  · have hW := fin1 w (1 + n1) (.int .i64 k) (.int .i64 s.side) (.int .i64 (number s : Nat))
    unfold zeroEv at hW
    generalize ((w.alloc (.cells #[.int .i64 0, .int .i64 0, .int .i64 0, .string ⟨#[]⟩, .string ⟨#[]⟩, .bool false] 38)).drewN (1 + n1)).alloc (.cells #[.int .i64 k, .int .i64 s.side, .int .i64 (number s : Nat), .string ⟨#[]⟩, .string ⟨#[]⟩, .bool false] 38) = W at *
    have HW := hide hW
    have HS := hide (H.out.below hW.bel)
    have HB := hide ((Bes.refl b o w).below hlt hW.bel)
    have hz1 := hW.ev1.lt
    have c5 := HS.out.mode
    clear hW c0
    by_cases m2 : s.mode = 2
    · have HE : Hid (finish k s = ({ becomeIdle (leave (putShort 5 s)) with rest := 3 }, some ⟨k, s.side, number s, noMsg⟩)) := by simp [Hid, finish, m2]
      rw [m2] at c5
      go_wp2_with fail
      refine (putShort_any F b o s 5 _ HS.out (by omega)).mono ?_
      rintro e w2 ⟨rfl, h2, b2⟩
      have B2 := hide (HB.out.trans b2)
      have E0 := hide (HW.out.ev0.bes b2 hne)
      have E1 := hide (HW.out.ev1.bes b2 hne1)
      have z2 := E1.out.lt
      have H2 := hide h2
      clear h2 b2 c5
      go_wp2_with fail
      refine (leave_any F b o (putShort 5 s) _ H2.out hn).mono ?_
      rintro e w3 ⟨rfl, h3, b3⟩
      have B3 := hide (B2.out.trans b3)
      have F0 := hide (E0.out.bes b3 hne)
      have F1 := hide (E1.out.bes b3 hne1)
      have H3 := hide h3
      clear h3 b3
      go_wp2_with fail
      refine (becomeIdle_any _ b o (leave (putShort 5 s)) _ H3.out).mono ?_
      rintro e w4 ⟨rfl, h4, b4⟩
      have B4 := hide (B3.out.trans b4)
      have G0 := hide (F0.out.bes b4 hne)
      have G1 := hide (F1.out.bes b4 hne1)
      have c7 := h4.rest
      have f7 := h4.fz (o + 7)
      obtain ⟨x0, x1, x2, x3, x4, x5⟩ := G0.out.cell
      obtain ⟨y0, y1, y2, y3, y4, y5⟩ := G1.out.cell
      have q0 := G0.out.free 0
      have q1 := G0.out.free 1
      have q2 := G0.out.free 2
      have q3 := G0.out.free 3
      have q4 := G0.out.free 4
      have q5 := G0.out.free 5
      have H4 := hide h4
      clear h4 b4
      go_wp2
      (try simp only [Exit.inBlock, Exit.then])
      have K5 := hide (H4.out.rest' 3)
      have G5 := hide (G0.out.bes ((Bes.refl b o w4).set 7 (by omega) (.int .i64 (3 : Nat))) hne)
      refine bodyPost_ret (results_ev rfl _ _ w.heap.size rfl (EvAt.all G5.out)) rfl ?_
      have hq : ∀ v, (w4.setCell ⟨b, o + 7, none⟩ (.int .i64 (3 : Nat))).cell? ⟨b, o + 1, none⟩ = some v → v.ownBlock ≠ some w.heap.size := by
        intro v hv e
        obtain ⟨u, hu, hQ⟩ := K5.out.que
        rw [hu] at hv
        cases hv
        have := hQ.2 _ e
        unfold New at this
        omega
      rw [HE.out]
      refine ⟨rfl, (StAt.ev K5.out (by omega) hq _ _ _ _ _ _).mono (fun g hg => Or.inr (by unfold New at hg; omega)) (fun x => x.elim H.out.nb (fun y => by omega)), Bes.ev (B4.out.set 7 (by omega) _) (Nat.le_refl _) hlt _ _ _ _ _ _⟩

    · have HE : Hid (finish k s = ({ becomeIdle (leave s) with rest := 3 }, some ⟨k, s.side, number s, noMsg⟩)) := by simp [Hid, finish, m2]
      have m2' : ¬ (s.mode : Int) = 2 := by omega
      have E0 := hide HW.out.ev0
      have E1 := hide HW.out.ev1
      have z2 := E1.out.lt
      have B2 := HB
      go_wp2_with fail
      refine (leave_any F b o s _ HS.out hn).mono ?_
      rintro e w3 ⟨rfl, h3, b3⟩
      have B3 := hide (B2.out.trans b3)
      have F0 := hide (E0.out.bes b3 hne)
      have F1 := hide (E1.out.bes b3 hne1)
      have H3 := hide h3
      clear h3 b3
      go_wp2_with fail
      refine (becomeIdle_any _ b o (leave s) _ H3.out).mono ?_
      rintro e w4 ⟨rfl, h4, b4⟩
      have B4 := hide (B3.out.trans b4)
      have G0 := hide (F0.out.bes b4 hne)
      have G1 := hide (F1.out.bes b4 hne1)
      have c7 := h4.rest
      have f7 := h4.fz (o + 7)
      obtain ⟨x0, x1, x2, x3, x4, x5⟩ := G0.out.cell
      obtain ⟨y0, y1, y2, y3, y4, y5⟩ := G1.out.cell
      have q0 := G0.out.free 0
      have q1 := G0.out.free 1
      have q2 := G0.out.free 2
      have q3 := G0.out.free 3
      have q4 := G0.out.free 4
      have q5 := G0.out.free 5
      have H4 := hide h4
      clear h4 b4
      go_wp2
      (try simp only [Exit.inBlock, Exit.then])
      have K5 := hide (H4.out.rest' 3)
      have G5 := hide (G0.out.bes ((Bes.refl b o w4).set 7 (by omega) (.int .i64 (3 : Nat))) hne)
      refine bodyPost_ret (results_ev rfl _ _ w.heap.size rfl (EvAt.all G5.out)) rfl ?_
      have hq : ∀ v, (w4.setCell ⟨b, o + 7, none⟩ (.int .i64 (3 : Nat))).cell? ⟨b, o + 1, none⟩ = some v → v.ownBlock ≠ some w.heap.size := by
        intro v hv e
        obtain ⟨u, hu, hQ⟩ := K5.out.que
        rw [hu] at hv
        cases hv
        have := hQ.2 _ e
        unfold New at this
        omega
      rw [HE.out]
      refine ⟨rfl, (StAt.ev K5.out (by omega) hq _ _ _ _ _ _).mono (fun g hg => Or.inr (by unfold New at hg; omega)) (fun x => x.elim H.out.nb (fun y => by omega)), Bes.ev (B4.out.set 7 (by omega) _) (Nat.le_refl _) hlt _ _ _ _ _ _⟩
  · have hW := fin2 w (1 + n1) (.int .i64 k) (.int .i64 s.side) (.int .i64 (number s : Nat))
    unfold zeroEv at hW
    generalize ((((((((w.alloc (.cells #[.int .i64 0, .int .i64 0, .int .i64 0, .string ⟨#[]⟩, .string ⟨#[]⟩, .bool false] 38)).alloc (.cells #[.int .i64 0, .int .i64 0, .int .i64 0, .string ⟨#[]⟩, .string ⟨#[]⟩, .bool false] 38)).drewN (1 + n1)).setCell ⟨w.heap.size + 1, 0, none⟩ (.int .i64 k)).setCell ⟨w.heap.size + 1, 1, none⟩ (.int .i64 s.side)).setCell ⟨w.heap.size + 1, 2, none⟩ (.int .i64 (number s : Nat))).setCell ⟨w.heap.size + 1, 3, none⟩ (.string ⟨#[]⟩)).setCell ⟨w.heap.size + 1, 4, none⟩ (.string ⟨#[]⟩) |>.setCell ⟨w.heap.size + 1, 5, none⟩ (.bool false)) = W at *
    have HW := hide hW
    have HS := hide (H.out.below hW.bel)
    have HB := hide ((Bes.refl b o w).below hlt hW.bel)
    have hz1 := hW.ev1.lt
    have c5 := HS.out.mode
    clear hW c0
    by_cases m2 : s.mode = 2
    · have HE : Hid (finish k s = ({ becomeIdle (leave (putShort 5 s)) with rest := 3 }, some ⟨k, s.side, number s, noMsg⟩)) := by simp [Hid, finish, m2]
      rw [m2] at c5
      go_wp2_with fail
      refine (putShort_any F b o s 5 _ HS.out (by omega)).mono ?_
      rintro e w2 ⟨rfl, h2, b2⟩
      have B2 := hide (HB.out.trans b2)
      have E0 := hide (HW.out.ev0.bes b2 hne)
      have E1 := hide (HW.out.ev1.bes b2 hne1)
      have z2 := E1.out.lt
      have H2 := hide h2
      clear h2 b2 c5
      go_wp2_with fail
      refine (leave_any F b o (putShort 5 s) _ H2.out hn).mono ?_
      rintro e w3 ⟨rfl, h3, b3⟩
      have B3 := hide (B2.out.trans b3)
      have F0 := hide (E0.out.bes b3 hne)
      have F1 := hide (E1.out.bes b3 hne1)
      have H3 := hide h3
      clear h3 b3
      go_wp2_with fail
      refine (becomeIdle_any _ b o (leave (putShort 5 s)) _ H3.out).mono ?_
      rintro e w4 ⟨rfl, h4, b4⟩
      have B4 := hide (B3.out.trans b4)
      have G0 := hide (F0.out.bes b4 hne)
      have G1 := hide (F1.out.bes b4 hne1)
      have c7 := h4.rest
      have f7 := h4.fz (o + 7)
      obtain ⟨x0, x1, x2, x3, x4, x5⟩ := G0.out.cell
      obtain ⟨y0, y1, y2, y3, y4, y5⟩ := G1.out.cell
      have q0 := G0.out.free 0
      have q1 := G0.out.free 1
      have q2 := G0.out.free 2
      have q3 := G0.out.free 3
      have q4 := G0.out.free 4
      have q5 := G0.out.free 5
      have H4 := hide h4
      clear h4 b4
      go_wp2
      (try simp only [Exit.inBlock, Exit.then])
      have K5 := hide (H4.out.rest' 3)
      have G5 := hide (G0.out.bes ((Bes.refl b o w4).set 7 (by omega) (.int .i64 (3 : Nat))) hne)
      refine bodyPost_ret (results_ev rfl _ _ w.heap.size rfl (EvAt.all G5.out)) rfl ?_
      have hq : ∀ v, (w4.setCell ⟨b, o + 7, none⟩ (.int .i64 (3 : Nat))).cell? ⟨b, o + 1, none⟩ = some v → v.ownBlock ≠ some w.heap.size := by
        intro v hv e
        obtain ⟨u, hu, hQ⟩ := K5.out.que
        rw [hu] at hv
        cases hv
        have := hQ.2 _ e
        unfold New at this
        omega
      rw [HE.out]
      refine ⟨rfl, (StAt.ev K5.out (by omega) hq _ _ _ _ _ _).mono (fun g hg => Or.inr (by unfold New at hg; omega)) (fun x => x.elim H.out.nb (fun y => by omega)), Bes.ev (B4.out.set 7 (by omega) _) (Nat.le_refl _) hlt _ _ _ _ _ _⟩

    · have HE : Hid (finish k s = ({ becomeIdle (leave s) with rest := 3 }, some ⟨k, s.side, number s, noMsg⟩)) := by simp [Hid, finish, m2]
      have m2' : ¬ (s.mode : Int) = 2 := by omega
      have E0 := hide HW.out.ev0
      have E1 := hide HW.out.ev1
      have z2 := E1.out.lt
      have B2 := HB
      go_wp2_with fail
      refine (leave_any F b o s _ HS.out hn).mono ?_
      rintro e w3 ⟨rfl, h3, b3⟩
      have B3 := hide (B2.out.trans b3)
      have F0 := hide (E0.out.bes b3 hne)
      have F1 := hide (E1.out.bes b3 hne1)
      have H3 := hide h3
      clear h3 b3
      go_wp2_with fail
      refine (becomeIdle_any _ b o (leave s) _ H3.out).mono ?_
      rintro e w4 ⟨rfl, h4, b4⟩
      have B4 := hide (B3.out.trans b4)
      have G0 := hide (F0.out.bes b4 hne)
      have G1 := hide (F1.out.bes b4 hne1)
      have c7 := h4.rest
      have f7 := h4.fz (o + 7)
      obtain ⟨x0, x1, x2, x3, x4, x5⟩ := G0.out.cell
      obtain ⟨y0, y1, y2, y3, y4, y5⟩ := G1.out.cell
      have q0 := G0.out.free 0
      have q1 := G0.out.free 1
      have q2 := G0.out.free 2
      have q3 := G0.out.free 3
      have q4 := G0.out.free 4
      have q5 := G0.out.free 5
      have H4 := hide h4
      clear h4 b4
      go_wp2
      (try simp only [Exit.inBlock, Exit.then])
      have K5 := hide (H4.out.rest' 3)
      have G5 := hide (G0.out.bes ((Bes.refl b o w4).set 7 (by omega) (.int .i64 (3 : Nat))) hne)
      refine bodyPost_ret (results_ev rfl _ _ w.heap.size rfl (EvAt.all G5.out)) rfl ?_
      have hq : ∀ v, (w4.setCell ⟨b, o + 7, none⟩ (.int .i64 (3 : Nat))).cell? ⟨b, o + 1, none⟩ = some v → v.ownBlock ≠ some w.heap.size := by
        intro v hv e
        obtain ⟨u, hu, hQ⟩ := K5.out.que
        rw [hu] at hv
        cases hv
        have := hQ.2 _ e
        unfold New at this
        omega
      rw [HE.out]
      refine ⟨rfl, (StAt.ev K5.out (by omega) hq _ _ _ _ _ _).mono (fun g hg => Or.inr (by unfold New at hg; omega)) (fun x => x.elim H.out.nb (fun y => by omega)), Bes.ev (B4.out.set 7 (by omega) _) (Nat.le_refl _) hlt _ _ _ _ _ _⟩

end Go.Proofs.YtlbpjcphhocdkabGreatDoor

namespace Go.Proofs.YtlbpjcphhocdkabGreatDoor
open Go.RowKit Go.Proofs.YtlbpjcphhocdkabGreatDoor.Mod Go.Proofs.YtlbpjcphhocdkabGreatDoor.Pst

/-- From here on the world is a letter of which R is known. -/
theorem wp_at {P : Program} {c : Code} {Q : Exit → Act → World → Prop} {a : Act} {W : World} (R : World → Prop) (h : R W) (k : ∀ W', R W' → Code.wp P c Q a W') : Code.wp P c Q a W := k W h

theorem Plus.sub {F : Nat → Prop} {w w1 : World} (h : w.heap.size ≤ w1.heap.size) : ∀ g, Plus F w1 g → Plus F w g := fun _ hg => hg.elim Or.inl (fun y => Or.inr (Nat.le_trans h y))
theorem StAt.from {w w1 W : World} {F : Nat → Prop} {b o : Nat} {s : PS} (h : StAt W (Plus F w1) b o s) (hn : ¬ F b) (hb : b < w.heap.size) (hs : w.heap.size ≤ w1.heap.size) : StAt W (Plus F w) b o s :=
  h.mono (Plus.sub hs) (fun x => x.elim hn (fun y => by omega))
theorem StAt.drewN {w : World} {F : Nat → Prop} {b o : Nat} {s : PS} (h : StAt w F b o s) (n : Nat) : StAt (w.drewN n) F b o s := h.below (below_drewN (Below.refl _ _) n)
theorem Bes.drewN {w u : World} {b o : Nat} (h : Bes b o u w) (n : Nat) : Bes b o u (w.drewN n) := ⟨h.os, h.tape, h.output, h.size, h.block, h.cell, h.froz⟩
theorem EvAt.drewN {w : World} {g : Nat} {v0 v1 v2 v3 v4 v5 : Value} (h : EvAt w g v0 v1 v2 v3 v4 v5) (n : Nat) : EvAt (w.drewN n) g v0 v1 v2 v3 v4 v5 := h
theorem CfgAt.drewN {w : World} {g : Nat} {c : Cfg} (h : CfgAt w g c) (n : Nat) : CfgAt (w.drewN n) g c := h
theorem EvAt.new {w : World} {g : Nat} (hg : w.heap.size = g) (v0 v1 v2 v3 v4 v5 : Value) : EvAt (w.alloc (.cells #[v0, v1, v2, v3, v4, v5] 38)) g v0 v1 v2 v3 v4 v5 := by subst hg; exact heap_alloc_new w _
theorem CfgAt.at {w : World} {g : Nat} (hg : w.heap.size = g) (c : Cfg) : CfgAt (w.alloc (.cells (cfgCells c) 23)) g c := by subst hg; exact heap_alloc_new w _
theorem CfgAt.alloc {w : World} {g : Nat} {c : Cfg} (h : CfgAt w g c) (x : Obj) : CfgAt (w.alloc x) g c := h.below ((Below.refl _ _).alloc (Nat.le_refl _) x)
theorem EvAt.alloc {w : World} {g : Nat} {v0 v1 v2 v3 v4 v5 : Value} (h : EvAt w g v0 v1 v2 v3 v4 v5) (x : Obj) : EvAt (w.alloc x) g v0 v1 v2 v3 v4 v5 := h.below ((Below.refl _ _).alloc (Nat.le_refl _) x)
/-- An empty event in memory. -/
def Ev0 (w : World) (g : Nat) : Prop := EvAt w g (.int .i64 0) (.int .i64 0) (.int .i64 0) (.string ⟨#[]⟩) (.string ⟨#[]⟩) (.bool false)

/-- How a method ends that answers an event. -/
theorem ev_end {w w4 : World} {F G : Nat → Prop} {b o g : Nat} {s : PS} (h : StAt w4 G b o s) (B : Bes b o w w4) (hG : ∀ x, G x → Plus F w x) (hq : ∀ x, G x → x ≠ g) (hg : w.heap.size ≤ g) (hlt : b < w.heap.size) (hn : ¬ F b) (u0 u1 u2 u3 u4 u5 : Value) :
    StAt ((((((w4.setCell ⟨g, 0, none⟩ u0).setCell ⟨g, 1, none⟩ u1).setCell ⟨g, 2, none⟩ u2).setCell ⟨g, 3, none⟩ u3).setCell ⟨g, 4, none⟩ u4).setCell ⟨g, 5, none⟩ u5) (Plus F w) b o s ∧
    Bes b o w ((((((w4.setCell ⟨g, 0, none⟩ u0).setCell ⟨g, 1, none⟩ u1).setCell ⟨g, 2, none⟩ u2).setCell ⟨g, 3, none⟩ u3).setCell ⟨g, 4, none⟩ u4).setCell ⟨g, 5, none⟩ u5) := by
  refine ⟨(StAt.ev h (by omega) ?_ _ _ _ _ _ _).mono hG (fun x => x.elim hn (fun y => by omega)), Bes.ev B hg hlt _ _ _ _ _ _⟩
  intro v hv e
  obtain ⟨u, hu, hQ⟩ := h.que
  rw [hu] at hv
  cases hv
  exact hq g (hQ.2 _ e) rfl

theorem plus_ne {F : Nat → Prop} {w w1 : World} {g : Nat} (hF : ∀ x, F x → x < w.heap.size) (h1 : w.heap.size ≤ g) (h2 : g < w1.heap.size) : ∀ x, Plus F w1 x → x ≠ g := by
  rintro x (hx | hx)
  · have := hF x hx; omega
  · omega
theorem own_ne {F : Nat → Prop} {w : World} {g : Nat} (hF : ∀ x, F x → x < w.heap.size) (h1 : w.heap.size ≤ g) : ∀ x, F x → x ≠ g := fun x hx => by have := hF x hx; omega

set_option maxHeartbeats 1000000 in
set_option maxRecDepth 1000000 in
theorem putOff_any (F : Nat → Prop) (b o : Nat) (s : PS) (c : Cfg) (w : World) (h : StAt w F b o s) (hF : ∀ x, F x → x < w.heap.size) (hj : s.q.length ≤ s.joined) (hm : s.joined ≤ 1000000000000000) (hn : s.q.length ≤ 100) (ho : s.off ≤ 1000) :
    Calls Tryz.prog 76 #[.pointer (some ⟨b, o, none⟩), cfgV c] w fun e w' => Tells w F b o (putOff c s) e w' := by
  have hlt := h.lt
  have hne : b ≠ w.heap.size := by omega
  have hne1 : b ≠ w.heap.size + 1 := by omega
  have c9 := h.off
  have f9 := h.fz (o + 9)
  have H := hide h
  clear h
  unfold cfgV
  go_enter Tryz.func76, Tryz.ntmps76
  go_wp2_with fail
  refine wp_at (fun W => StAt W F b o { s with off := s.off + 1 } ∧ Bes b o w W ∧ CfgAt W w.heap.size c ∧ Ev0 W (w.heap.size + 1)) ?_ ?_
  · exact ⟨((H.out.off' (s.off + 1)).alloc _).alloc _, (((Bes.refl b o w).set 9 (by omega) _).alloc (by simpa using hlt) _).alloc (by simp; omega) _, (CfgAt.at (by simp) c).alloc _, EvAt.new (by simp) _ _ _ _ _ _⟩
  rintro W ⟨h0, B0, C0, E0⟩
  have c9 := h0.off
  have c10 := h0.free
  have f10 := h0.fz (o + 10)
  obtain ⟨k0, k1, k2, k3, k4, k5, k6, k7, k8, k9⟩ := C0.all
  have HS := hide h0
  have HB := hide B0
  have HC := hide C0
  have HV := hide E0
  have hz := E0.lt
  simp only at c9
  clear h0 B0 C0 E0 
  by_cases hw : s.off + 1 > c.waits
  · have HE : Hid (putOff c s = finish 3 { s with off := s.off + 1 }) := by simp [Hid, putOff, hw]
    have hw' : (c.waits : Int) < ((s.off + 1 : Nat) : Int) := by omega
    generalize s.off + 1 = off1 at *
    go_quiet (fail)
    go_wp2_with fail
    refine (finish_any F b o _ 3 _ (HS.out.drewN nq) hj hm hn).mono ?_
    rintro e w2 ⟨rfl, h2, b2⟩
    have HV2 := hide (HV.out.bes (b := b) (o := o) ((Bes.refl b o W).drewN nq |>.trans b2) hne1)
    have HB2 := hide ((HB.out.drewN nq).trans b2)
    obtain ⟨x0, x1, x2, x3, x4, x5⟩ := HV2.out.cell
    have q0 := HV2.out.free 0
    have q1 := HV2.out.free 1
    have q2 := HV2.out.free 2
    have q3 := HV2.out.free 3
    have q4 := HV2.out.free 4
    have q5 := HV2.out.free 5
    have H2 := hide h2
    clear h2 b2 c9 c10 f10 k0 k1 k2 k3 k4 k5 k6 k7 k8 k9
    simp only [finish, evV]
    go_wp2
    (try simp only [Exit.inBlock, Exit.then])
    refine bodyPost_ret (results_ev rfl _ _ (w.heap.size + 1) rfl (EvAt.all HV2.out)) rfl ?_
    rw [HE.out]
    exact ⟨rfl, ev_end H2.out HB2.out (Plus.sub HB.out.size) (plus_ne hF (by omega) hz) (by omega) hlt H.out.nb _ _ _ _ _ _⟩
  · have HE : Hid (putOff c s = (beginWait c { s with off := s.off + 1, free := true }, none)) := by simp [Hid, putOff, hw]
    have hw' : ¬ (c.waits : Int) < ((s.off + 1 : Nat) : Int) := by omega
    generalize s.off + 1 = off1 at *
    go_quiet (fail)
    go_wp2_with fail
    refine (beginWait_any F b o _ c _ ((HS.out.drewN nq).free' true)).mono ?_
    rintro e w2 ⟨rfl, h2, b2⟩
    have b3 := ((((Bes.refl b o W).drewN nq).set 10 (by omega) (.bool true)).trans b2)
    have HV2 := hide (HV.out.bes b3 hne1)
    have HB2 := hide (HB.out.trans b3)
    obtain ⟨x0, x1, x2, x3, x4, x5⟩ := HV2.out.cell
    have q0 := HV2.out.free 0
    have q1 := HV2.out.free 1
    have q2 := HV2.out.free 2
    have q3 := HV2.out.free 3
    have q4 := HV2.out.free 4
    have q5 := HV2.out.free 5
    have H2 := hide h2
    clear h2 b2 b3 c9 c10 f10 k0 k1 k2 k3 k4 k5 k6 k7 k8 k9
    go_wp2
    (try simp only [Exit.inBlock, Exit.then])
    refine bodyPost_ret (results_ev rfl _ _ (w.heap.size + 1) rfl (EvAt.all HV2.out)) rfl ?_
    rw [HE.out]
    exact ⟨rfl, ev_end H2.out HB2.out (fun _ => Or.inl) (own_ne hF (by omega)) (by omega) hlt H.out.nb _ _ _ _ _ _⟩

end Go.Proofs.YtlbpjcphhocdkabGreatDoor

namespace Go.Proofs.YtlbpjcphhocdkabGreatDoor
open Go.RowKit Go.Proofs.YtlbpjcphhocdkabGreatDoor.Mod Go.Proofs.YtlbpjcphhocdkabGreatDoor.Pst

theorem Ev0.bes {w w' : World} {g b o : Nat} (h : Ev0 w g) (k : Bes b o w w') (hb : b ≠ g) : Ev0 w' g := EvAt.bes h k hb
/-- What a store into an empty event wants. -/
theorem Ev0.all {w : World} {g : Nat} (h : Ev0 w g) : (w.cell? ⟨g, 0, none⟩ = some (.int .i64 0) ∧ w.cell? ⟨g, 1, none⟩ = some (.int .i64 0) ∧ w.cell? ⟨g, 2, none⟩ = some (.int .i64 0) ∧ w.cell? ⟨g, 3, none⟩ = some (.string ⟨#[]⟩) ∧ w.cell? ⟨g, 4, none⟩ = some (.string ⟨#[]⟩) ∧ w.cell? ⟨g, 5, none⟩ = some (.bool false)) ∧
    w.frozen? ⟨g, 0, none⟩ = false ∧ w.frozen? ⟨g, 1, none⟩ = false ∧ w.frozen? ⟨g, 2, none⟩ = false ∧ w.frozen? ⟨g, 3, none⟩ = false ∧ w.frozen? ⟨g, 4, none⟩ = false ∧ w.frozen? ⟨g, 5, none⟩ = false :=
  ⟨EvAt.cell h, EvAt.free h 0, EvAt.free h 1, EvAt.free h 2, EvAt.free h 3, EvAt.free h 4, EvAt.free h 5⟩

set_option maxHeartbeats 1000000 in
set_option maxRecDepth 1000000 in
theorem tryAgain_any (F : Nat → Prop) (b o : Nat) (s : PS) (k : Nat) (c : Cfg) (w : World) (h : StAt w F b o s) (hF : ∀ x, F x → x < w.heap.size) (hj : s.q.length ≤ s.joined) (hm : s.joined ≤ 1000000000000000) (hn : s.q.length ≤ 100) (ht : s.tries ≤ 1000) (hk : 3 ≤ k ∧ k ≤ 9) :
    Calls Tryz.prog 78 #[.pointer (some ⟨b, o, none⟩), .int .i64 k, cfgV c] w fun e w' => Tells w F b o (tryAgain k c s) e w' := by
  have hlt := h.lt
  have hne : b ≠ w.heap.size := by omega
  have hne1 : b ≠ w.heap.size + 1 := by omega
  have HK := hide hk
  have HN := hide h.nb
  have hR : StAt ((w.alloc (.cells (cfgCells c) 23)).alloc (.cells zeroEv 38)) F b o s ∧ Bes b o w ((w.alloc (.cells (cfgCells c) 23)).alloc (.cells zeroEv 38)) ∧ CfgAt ((w.alloc (.cells (cfgCells c) 23)).alloc (.cells zeroEv 38)) w.heap.size c ∧ Ev0 ((w.alloc (.cells (cfgCells c) 23)).alloc (.cells zeroEv 38)) (w.heap.size + 1) :=
    ⟨(h.alloc _).alloc _, ((Bes.refl b o w).alloc hlt _).alloc (by simp; omega) _, (CfgAt.at rfl c).alloc _, EvAt.new (by simp) _ _ _ _ _ _⟩
  have c8 := h.tries
  have c10 := h.free
  have f8 := h.fz (o + 8)
  have f10 := h.fz (o + 10)
  have H := hide h
  have HR := hide hR
  clear h hk hR
  unfold cfgV
  cases hfr : s.free
  · rw [hfr] at c10
    by_cases hw : s.tries > c.tries
    · have HE : Hid (tryAgain k c s = finish 3 s) := by simp [Hid, tryAgain, hfr, hw]
      have hw' : (c.tries : Int) < (s.tries : Int) := by omega
      go_enter Tryz.func78, Tryz.ntmps78
      go_wp2_with fail
      refine wp_at (fun W => StAt W F b o s ∧ Bes b o w W ∧ CfgAt W w.heap.size c ∧ Ev0 W (w.heap.size + 1)) HR.out ?_
      rintro W ⟨h0, B0, C0, E0⟩
      have c8 := h0.tries
      obtain ⟨k0, k1, k2, k3, k4, k5, k6, k7, k8, k9⟩ := C0.all
      have HS := hide h0
      have HB := hide B0
      have HV := hide E0
      have hz := E0.lt
      clear h0 B0 C0 E0
      go_quiet (fail)
      go_wp2_with fail
      refine (finish_any F b o _ 3 _ (HS.out.drewN nq) hj hm hn).mono ?_
      rintro e w2 ⟨rfl, h2, b2⟩
      have HV2 := hide (HV.out.bes ((Bes.refl b o W).drewN nq |>.trans b2) hne1)
      have HB2 := hide ((HB.out.drewN nq).trans b2)
      obtain ⟨⟨x0, x1, x2, x3, x4, x5⟩, q0, q1, q2, q3, q4, q5⟩ := HV2.out.all
      have H2 := hide h2
      clear h2 b2 k0 k1 k2 k3 k4 k5 k6 k7 k8 k9
      simp only [finish, evV]
      go_wp2
      (try simp only [Exit.inBlock, Exit.then])
      refine bodyPost_ret (results_ev rfl _ _ (w.heap.size + 1) rfl (EvAt.all HV2.out)) rfl ?_
      rw [HE.out]
      exact ⟨rfl, ev_end H2.out HB2.out (Plus.sub HB.out.size) (plus_ne hF (by omega) hz) (by omega) hlt HN.out _ _ _ _ _ _⟩
    · have HE : Hid (tryAgain k c s = (beginWait c (putShort k { s with tries := s.tries + 1, free := false }), none)) := by simp [Hid, tryAgain, hfr, hw]
      have hw' : ¬ (c.tries : Int) < (s.tries : Int) := by omega
      go_enter Tryz.func78, Tryz.ntmps78
      go_wp2_with fail
      refine wp_at (fun W => StAt W F b o s ∧ Bes b o w W ∧ CfgAt W w.heap.size c ∧ Ev0 W (w.heap.size + 1)) HR.out ?_
      rintro W ⟨h0, B0, C0, E0⟩
      have c8 := h0.tries
      have c10 := h0.free
      have f8 := h0.fz (o + 8)
      have f10 := h0.fz (o + 10)
      obtain ⟨k0, k1, k2, k3, k4, k5, k6, k7, k8, k9⟩ := C0.all
      have HS := hide h0
      have HB := hide B0
      have HC := hide C0
      have HV := hide E0
      have hz := E0.lt
      clear h0 B0 C0 E0
      go_quiet (fail)
      go_wp2_with fail
      refine (putShort_any F b o _ k _ (((HS.out.drewN nq).tries' (s.tries + 1)).free' false) HK.out).mono ?_
      rintro e w2 ⟨rfl, h2, b2⟩
      have b3 := (((((Bes.refl b o W).drewN nq).set 8 (by omega) (.int .i64 (s.tries + 1 : Nat))).set 10 (by omega) (.bool false)).trans b2)
      have HC2 := hide (HC.out.bes b3 hne)
      have HV2 := hide (HV.out.bes b3 hne1)
      have HB2 := hide (HB.out.trans b3)
      have H2 := hide h2
      clear h2 b2 b3 k0 k1 k2 k3 k4 k5 k6 k7 k8 k9
      obtain ⟨k0, k1, k2, k3, k4, k5, k6, k7, k8, k9⟩ := HC2.out.all
      go_wp2_with fail
      refine (beginWait_any F b o _ c _ H2.out).mono ?_
      rintro e w4 ⟨rfl, h4, b4⟩
      have HV4 := hide (HV2.out.bes b4 hne1)
      have HB4 := hide (HB2.out.trans b4)
      obtain ⟨⟨x0, x1, x2, x3, x4, x5⟩, q0, q1, q2, q3, q4, q5⟩ := HV4.out.all
      have H4 := hide h4
      clear h4 b4 k0 k1 k2 k3 k4 k5 k6 k7 k8 k9
      go_wp2
      (try simp only [Exit.inBlock, Exit.then])
      refine bodyPost_ret (results_ev rfl _ _ (w.heap.size + 1) rfl (EvAt.all HV4.out)) rfl ?_
      rw [HE.out]
      exact ⟨rfl, ev_end H4.out HB4.out (fun _ => Or.inl) (own_ne hF (by omega)) (by omega) hlt HN.out _ _ _ _ _ _⟩
  · rw [hfr] at c10
    have HE : Hid (tryAgain k c s = (beginWait c (putShort k { s with free := false }), none)) := by simp [Hid, tryAgain, hfr]
    have HR2 : Hid (StAt (((w.setCell ⟨b, o + 10, none⟩ (.bool false)).alloc (.cells (cfgCells c) 23)).alloc (.cells zeroEv 38)) F b o { s with free := false } ∧ Bes b o w (((w.setCell ⟨b, o + 10, none⟩ (.bool false)).alloc (.cells (cfgCells c) 23)).alloc (.cells zeroEv 38)) ∧ CfgAt (((w.setCell ⟨b, o + 10, none⟩ (.bool false)).alloc (.cells (cfgCells c) 23)).alloc (.cells zeroEv 38)) w.heap.size c ∧ Ev0 (((w.setCell ⟨b, o + 10, none⟩ (.bool false)).alloc (.cells (cfgCells c) 23)).alloc (.cells zeroEv 38)) (w.heap.size + 1)) :=
      ⟨((H.out.free' false).alloc _).alloc _, (((Bes.refl b o w).set 10 (by omega) _).alloc (by simpa using hlt) _).alloc (by simp; omega) _, (CfgAt.at (by simp) c).alloc _, EvAt.new (by simp) _ _ _ _ _ _⟩
    go_enter Tryz.func78, Tryz.ntmps78
    go_wp2_with fail
    refine (putShort_any F b o _ k _ HR2.out.1 HK.out).mono ?_
    rintro e w2 ⟨rfl, h2, b2⟩
    have HC2 := hide (HR2.out.2.2.1.bes b2 hne)
    have HV2 := hide (HR2.out.2.2.2.bes b2 hne1)
    have HB2 := hide (HR2.out.2.1.trans b2)
    have H2 := hide h2
    clear h2 b2
    obtain ⟨k0, k1, k2, k3, k4, k5, k6, k7, k8, k9⟩ := HC2.out.all
    go_wp2_with fail
    refine (beginWait_any F b o _ c _ H2.out).mono ?_
    rintro e w4 ⟨rfl, h4, b4⟩
    have HV4 := hide (HV2.out.bes b4 hne1)
    have HB4 := hide (HB2.out.trans b4)
    obtain ⟨⟨x0, x1, x2, x3, x4, x5⟩, q0, q1, q2, q3, q4, q5⟩ := HV4.out.all
    have H4 := hide h4
    clear h4 b4 k0 k1 k2 k3 k4 k5 k6 k7 k8 k9
    go_wp2
    (try simp only [Exit.inBlock, Exit.then])
    refine bodyPost_ret (results_ev rfl _ _ (w.heap.size + 1) rfl (EvAt.all HV4.out)) rfl ?_
    rw [HE.out]
    exact ⟨rfl, ev_end H4.out HB4.out (fun _ => Or.inl) (own_ne hF (by omega)) (by omega) hlt HN.out _ _ _ _ _ _⟩

end Go.Proofs.YtlbpjcphhocdkabGreatDoor
