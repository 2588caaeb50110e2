/-One tick of a dead line. -/
import Derived.Test.YtlbpjcphhocdkabGreatDoorGPri
namespace Go.Proofs.YtlbpjcphhocdkabGreatDoor
set_option maxRecDepth 1000000
set_option linter.unusedSimpArgs false
open Go.RowKit Go.Proofs.YtlbpjcphhocdkabGreatDoor.Mod Go.Proofs.YtlbpjcphhocdkabGreatDoor.Pst Go.Proofs.YtlbpjcphhocdkabGreatDoor.Run

def Tdd (A : RA) (gk gm j : Nat) (v : Value) (a : Act) : Prop := a.defers = [] ∧ a.tmps = List.toArray (.pointer (some ⟨A.rb, 0, none⟩) :: .pointer (some ⟨gk, 0, none⟩) :: .pointer (some ⟨gm, 0, none⟩) :: undef :: undef :: undef :: a.tmps.getD 6 undef :: v :: .int .i64 (j : Int) :: a.tmps.getD 9 undef :: .bool true :: undef :: undef :: .pointer (some ⟨A.rb, 0, none⟩) :: .tuple #[] :: .pointer (some ⟨A.rb, 0, none⟩) :: v :: a.tmps.getD 17 undef :: a.tmps.getD 18 undef :: a.tmps.getD 19 undef :: a.tmps.getD 20 undef :: a.tmps.getD 21 undef :: a.tmps.getD 22 undef :: a.tmps.getD 23 undef :: a.tmps.getD 24 undef :: a.tmps.getD 25 undef :: a.tmps.getD 26 undef :: a.tmps.getD 27 undef :: a.tmps.getD 28 undef :: a.tmps.getD 29 undef :: a.tmps.getD 30 undef :: a.tmps.getD 31 undef :: a.tmps.getD 32 undef :: a.tmps.getD 33 undef :: a.tmps.getD 34 undef :: a.tmps.getD 35 undef :: a.tmps.getD 36 undef :: a.tmps.getD 37 undef :: a.tmps.getD 38 undef :: a.tmps.getD 39 undef :: a.tmps.getD 40 undef :: a.tmps.getD 41 undef :: a.tmps.getD 42 undef :: a.tmps.getD 43 undef :: undef :: undef :: undef :: undef :: undef :: undef :: undef :: undef :: undef :: undef :: undef :: undef :: undef :: undef :: undef :: undef :: undef :: undef :: undef :: undef :: undef :: undef :: undef :: undef :: undef :: undef :: undef :: undef :: undef :: undef :: undef :: undef :: [])
theorem Tdd.use {A : RA} {gk gm j : Nat} {v : Value} {a : Act} (h : Tdd A gk gm j v a) : ∃ u : Nat → Value, a = { tmps := List.toArray (.pointer (some ⟨A.rb, 0, none⟩) :: .pointer (some ⟨gk, 0, none⟩) :: .pointer (some ⟨gm, 0, none⟩) :: undef :: undef :: undef :: u 6 :: v :: .int .i64 (j : Int) :: u 9 :: .bool true :: undef :: undef :: .pointer (some ⟨A.rb, 0, none⟩) :: .tuple #[] :: .pointer (some ⟨A.rb, 0, none⟩) :: v :: u 17 :: u 18 :: u 19 :: u 20 :: u 21 :: u 22 :: u 23 :: u 24 :: u 25 :: u 26 :: u 27 :: u 28 :: u 29 :: u 30 :: u 31 :: u 32 :: u 33 :: u 34 :: u 35 :: u 36 :: u 37 :: u 38 :: u 39 :: u 40 :: u 41 :: u 42 :: u 43 :: undef :: undef :: undef :: undef :: undef :: undef :: undef :: undef :: undef :: undef :: undef :: undef :: undef :: undef :: undef :: undef :: undef :: undef :: undef :: undef :: undef :: undef :: undef :: undef :: undef :: undef :: undef :: undef :: undef :: undef :: undef :: undef :: []), defers := [] } := ⟨fun i => a.tmps.getD i undef, by obtain ⟨h1, h2⟩ := h; cases a; simp only at h1 h2; subst h1; exact congrArg (fun t => ({ tmps := t, defers := [] } : Act)) h2⟩

/-- A count in memory. -/
def CntAt (w : World) (g : Nat) (c : Nat × Nat) : Prop := w.heap[g]? = some (.cells #[.int .i64 c.1, .int .i64 c.2] 55 (0, 0))
theorem CntAt.cell {w : World} {g : Nat} {c : Nat × Nat} (h : CntAt w g c) : w.cell? ⟨g, 0, none⟩ = some (.int .i64 c.1) ∧ w.cell? ⟨g, 1, none⟩ = some (.int .i64 c.2) ∧ ∀ j, w.frozen? ⟨g, j, none⟩ = false := by
  refine ⟨?_, ?_, fun j => Go.Joins.unfrozen_of_block h j⟩ <;> (unfold CntAt at h; simp [World.cell?, h])
theorem CntAt.set0 {w : World} {g : Nat} {c : Nat × Nat} (h : CntAt w g c) (n : Nat) : CntAt (w.setCell ⟨g, 0, none⟩ (.int .i64 n)) g (n, c.2) := heap_set _ _ _ _ _ _ _ h
theorem CntAt.set1 {w : World} {g : Nat} {c : Nat × Nat} (h : CntAt w g c) (n : Nat) : CntAt (w.setCell ⟨g, 1, none⟩ (.int .i64 n)) g (c.1, n) := heap_set _ _ _ _ _ _ _ h
theorem CntAt.keep {w w' : World} {g : Nat} {c : Nat × Nat} (h : CntAt w g c) (e : w'.heap[g]? = w.heap[g]?) : CntAt w' g c := e.trans h

theorem failed_end {w : World} {g : Nat} {c : Nat × Nat} (h : CntAt w g c) (n : Nat) (o : Obj) : CntAt (((w.setCell ⟨g, 0, none⟩ (.int .i64 0)).setCell ⟨g, 1, none⟩ (.int .i64 n)).alloc o) g (0, n) ∧ Fr (fun x => x = g) w (((w.setCell ⟨g, 0, none⟩ (.int .i64 0)).setCell ⟨g, 1, none⟩ (.int .i64 n)).alloc o) := by
  have hlt := lt_of_block h
  have k2 : CntAt ((w.setCell ⟨g, 0, none⟩ (.int .i64 0)).setCell ⟨g, 1, none⟩ (.int .i64 n)) g (0, n) := (h.set0 0).set1 n
  have sz : ((w.setCell ⟨g, 0, none⟩ (.int .i64 0)).setCell ⟨g, 1, none⟩ (.int .i64 n)).heap.size = w.heap.size := by simp
  have kb : ∀ x, x ≠ g → ((w.setCell ⟨g, 0, none⟩ (.int .i64 0)).setCell ⟨g, 1, none⟩ (.int .i64 n)).heap[x]? = w.heap[x]? := fun x hx => by rw [Below.heap_setCell _ _ _ _ (fun e => hx e), Below.heap_setCell _ _ _ _ (fun e => hx e)]
  have os1 : ((w.setCell ⟨g, 0, none⟩ (.int .i64 0)).setCell ⟨g, 1, none⟩ (.int .i64 n)).os = w.os := rfl
  have tp1 : ((w.setCell ⟨g, 0, none⟩ (.int .i64 0)).setCell ⟨g, 1, none⟩ (.int .i64 n)).tape = w.tape := rfl
  have op1 : ((w.setCell ⟨g, 0, none⟩ (.int .i64 0)).setCell ⟨g, 1, none⟩ (.int .i64 n)).output = w.output := rfl
  generalize (w.setCell ⟨g, 0, none⟩ (.int .i64 0)).setCell ⟨g, 1, none⟩ (.int .i64 n) = W at *
  have bb := Below.alloc (Below.refl W.heap.size W) (Nat.le_refl _) o
  refine ⟨k2.keep (bb.block g (by omega)), ⟨bb.os.trans os1, bb.tape.trans tp1, bb.output.trans op1, by have := bb.size; omega, fun x hx hn => (bb.block x (by omega)).trans (kb x hn)⟩⟩
set_option maxHeartbeats 1000000 in
theorem failed_any (g : Nat) (c : Nat × Nat) (e : Ev) (tries : Nat) (w : World) (h : CntAt w g c) (hk : e.kind = 3) (hb : c.2 = 0 ∨ c.1 = tries + 1) (h1 : c.2 ≤ 1000000000000000) (h2 : tries ≤ 7) :
    Calls Tryz.prog 38 #[.pointer (some ⟨g, 0, none⟩), evV e, .int .i64 tries] w fun x w' => x = .returned (.bool true) ∧ CntAt w' g (0, c.2 + 1) ∧ Fr (fun x => x = g) w w' := by
  have hlt := lt_of_block h
  have hne : g ≠ w.heap.size := by omega
  obtain ⟨c0, c1, fz⟩ := h.cell
  have f0 := fz 0
  have f1 := fz 1
  have HC := hide h
  have X0 := box_ev w e
  unfold evV
  have wt : IntKind.i64.wrap ((tries : Int) + 1) = tries + 1 := wrap_in _ (by omega) (by omega)
  have wc : IntKind.i64.wrap ((c.2 : Int) + 1) = c.2 + 1 := wrap_in _ (by omega) (by omega)
  have dk : ((e.kind : Int) == 3) = true := by simp; omega
  clear h fz X0 hk
  go_enter Tryz.func38, Tryz.ntmps38
  by_cases z : c.2 = 0
  · rw [z] at c1 ⊢
    have HC' := hide (failed_end HC.out 1)
    go_wp2
    go_ret
    exact ⟨rfl, HC'.out _⟩
  · have z' : ((c.2 : Int) == 0) = false := by simp; omega
    have zb : c.1 = tries + 1 := by omega
    have zb' : ((c.1 : Int) == (tries : Int) + 1) = true := by simp; omega
    have HC' := hide (failed_end HC.out (c.2 + 1))
    have ec : ((c.2 : Int) + 1) = ((c.2 + 1 : Nat) : Int) := by omega
    have HEc := hide ec
    clear hb ec zb
    go_wp2
    go_ret
    rw [HEc.out]
    exact ⟨rfl, HC'.out _⟩

/-- A count behind some events. -/
def cA (c : Nat × Nat) (i : Nat) (l : List Ev) : Nat × Nat := l.foldl (fun c e => if e.station = i then (0, c.2 + 1) else c) c
theorem cA_snoc (c : Nat × Nat) (i : Nat) (l : List Ev) (j : Nat) (hj : j < l.length) : cA c i (l.take (j + 1)) = if (l.getD j noEv).station = i then (0, (cA c i (l.take j)).2 + 1) else cA c i (l.take j) := by
  unfold cA
  rw [List.take_add_one, List.getElem?_eq_getElem hj, List.foldl_append, List.getD, List.getElem?_eq_getElem hj]
  rfl
theorem dead_evs {r : R} {k m : Nat × Nat} {c : Cfg} (h0 : DeadEv c 0 k (did0 r.x)) (h1 : DeadEv c 1 m (did1 r.x)) :
    (∀ j, j < (events r.x).length → ((events r.x).getD j noEv).kind = 3 ∧ ((((events r.x).getD j noEv).station = 0 ∧ cA k 0 ((events r.x).take j) = k ∧ (k.2 = 0 ∨ k.1 = c.tries + 1)) ∨ (((events r.x).getD j noEv).station = 1 ∧ cA m 1 ((events r.x).take j) = m ∧ (m.2 = 0 ∨ m.1 = c.tries + 1))))
    ∧ cnt k (did0 r.x) = ((cA k 0 (events r.x)).1 + isBid (did0 r.x).2.1, (cA k 0 (events r.x)).2) ∧ cnt m (did1 r.x) = ((cA m 1 (events r.x)).1 + isBid (did1 r.x).2.1, (cA m 1 (events r.x)).2) := by
  unfold events cnt
  cases e0 : (did0 r.x).2.2 with
  | none =>
    cases e1 : (did1 r.x).2.2 with
    | none => exact ⟨fun j hj => by simp at hj, rfl, rfl⟩
    | some b =>
      obtain ⟨b1, b2, b3⟩ := h1 b e1
      refine ⟨?_, ?_, ?_⟩
      · intro j hj
        have : j = 0 := by simp at hj; exact hj
        subst this
        exact ⟨b1, Or.inr ⟨b2, rfl, b3⟩⟩
      · simp [cA, b2]
      · simp [cA, b2]
  | some a =>
    obtain ⟨a1, a2, a3⟩ := h0 a e0
    cases e1 : (did1 r.x).2.2 with
    | none =>
      refine ⟨?_, ?_, ?_⟩
      · intro j hj
        have : j = 0 := by simp at hj; exact hj
        subst this
        exact ⟨a1, Or.inl ⟨a2, rfl, a3⟩⟩
      · simp [cA, a2]
      · simp [cA, a2]
    | some b =>
      obtain ⟨b1, b2, b3⟩ := h1 b e1
      refine ⟨?_, ?_, ?_⟩
      · intro j hj
        have : j = 0 ∨ j = 1 := by simp at hj; omega
        rcases this with rfl | rfl
        · exact ⟨a1, Or.inl ⟨a2, rfl, a3⟩⟩
        · exact ⟨b1, Or.inr ⟨b2, by simp [cA, a2], b3⟩⟩
      · simp [cA, a2, b2]
      · simp [cA, a2, b2]

theorem cA_le (c : Nat × Nat) (i : Nat) (l : List Ev) : (cA c i l).1 ≤ c.1 ∧ (cA c i l).2 ≤ c.2 + l.length := by
  unfold cA
  induction l generalizing c with
  | nil => exact ⟨Nat.le_refl _, Nat.le_refl _⟩
  | cons e l ih =>
    simp only [List.foldl_cons, List.length_cons]
    by_cases z : e.station = i
    · rw [if_pos z]
      have := ih (0, c.2 + 1)
      simp only at this
      omega
    · rw [if_neg z]
      have := ih c
      omega
/-- The run and the two counts, apart from one another. -/
def XS (w0 : World) (gk gm : Nat) (g : Nat) : Prop := w0.heap.size ≤ g ∧ g ≠ gk ∧ g ≠ gm
structure DdR (w0 : World) (A : RA) (gk gm : Nat) (k m : Nat × Nat) (r : R) (W : World) : Prop where
  run : RunAt W (XS w0 gk gm) A r
  bel : Below w0.heap.size w0 W
  ck : CntAt W gk k
  cm : CntAt W gm m
  k0 : w0.heap.size ≤ gk
  m0 : w0.heap.size ≤ gm
  ne : gk ≠ gm
theorem DdR.step {w0 W W' : World} {A : RA} {gk gm : Nat} {k m : Nat × Nat} {r r' : R} (h : DdR w0 A gk gm k m r W) (hr : RunAt W' (Plus (XS w0 gk gm) W) A r') (hf : Fr (XS w0 gk gm) W W') : DdR w0 A gk gm k m r' W' := by
  have h1 := lt_of_block h.ck
  have h2 := lt_of_block h.cm
  refine ⟨hr.mono fun g z => z.elim id (fun y => ⟨by have := h.bel.size; omega, by omega, by omega⟩), hf.toBelow h.bel (fun g z => z.1), h.ck.keep (hf.block _ h1 (fun z => z.2.1 rfl)), h.cm.keep (hf.block _ h2 (fun z => z.2.2 rfl)), h.k0, h.m0, h.ne⟩
theorem DdR.below {w0 W W' : World} {A : RA} {gk gm : Nat} {k m : Nat × Nat} {r : R} (h : DdR w0 A gk gm k m r W) (b : Below W.heap.size W W') : DdR w0 A gk gm k m r W' := by
  have h1 := lt_of_block h.ck
  have h2 := lt_of_block h.cm
  exact ⟨h.run.below b, below_step h.bel b, h.ck.keep (b.block _ h1), h.cm.keep (b.block _ h2), h.k0, h.m0, h.ne⟩
theorem DdR.drewN {w0 W : World} {A : RA} {gk gm : Nat} {k m : Nat × Nat} {r : R} (h : DdR w0 A gk gm k m r W) (n : Nat) : DdR w0 A gk gm k m r (W.drewN n) := h.below (below_drewN (Below.refl _ _) n)
/-- A count changes. -/
theorem DdR.setK {w0 W W' : World} {A : RA} {gk gm : Nat} {k k' m : Nat × Nat} {r : R} (h : DdR w0 A gk gm k m r W) (c : CntAt W' gk k') (hf : Fr (fun x => x = gk) W W') : DdR w0 A gk gm k' m r W' :=
  ⟨h.run.keep hf.size (fun g z hl => hf.block g hl (fun e => z.2.1 e)), hf.toBelow h.bel (fun g e => by have := h.k0; rw [e]; exact this), c, h.cm.keep (hf.block _ (lt_of_block h.cm) (fun e => h.ne e.symm)), h.k0, h.m0, h.ne⟩
theorem DdR.setM {w0 W W' : World} {A : RA} {gk gm : Nat} {k m m' : Nat × Nat} {r : R} (h : DdR w0 A gk gm k m r W) (c : CntAt W' gm m') (hf : Fr (fun x => x = gm) W W') : DdR w0 A gk gm k m' r W' :=
  ⟨h.run.keep hf.size (fun g z hl => hf.block g hl (fun e => z.2.2 e)), hf.toBelow h.bel (fun g e => by have := h.m0; rw [e]; exact this), h.ck.keep (hf.block _ (lt_of_block h.ck) (fun e => h.ne e)), c, h.k0, h.m0, h.ne⟩
theorem fr_set {w : World} {g : Nat} (i : Nat) (v : Value) : Fr (fun x => x = g) w (w.setCell ⟨g, i, none⟩ v) := ⟨rfl, rfl, rfl, by simp, fun x _ hn => Below.heap_setCell _ _ _ _ (fun e => hn e)⟩
/-- While the events are told of. -/
def DcR (w0 : World) (A : RA) (gk gm : Nat) (k m : Nat × Nat) (r : R) (B : Nat) (v : Value) (E : List Ev) (j : Nat) (W : World) : Prop := DdR w0 A gk gm (cA k 0 (E.take j)) (cA m 1 (E.take j)) r W ∧ OwnE W B v E
def DcA (w0 : World) (A : RA) (gk gm : Nat) (k m : Nat × Nat) (r : R) (B : Nat) (v : Value) (E : List Ev) (j : Nat) (T : Act → Prop) (a : Act) (W : World) : Prop := T a ∧ DcR w0 A gk gm k m r B v E j W

set_option maxHeartbeats 8000000 in
theorem dead_h (w0 : World) (A : RA) (gk gm : Nat) (k m : Nat × Nat) (r : R) (W : World) (h : DdR w0 A gk gm k m r W) (hd : Ded r k m) (ok : r.ok = true) (la : r.a.want.length ≤ 10000000000000) (lb : r.b.want.length ≤ 10000000000000) (hk1 : k.1 ≤ 100000000000000 ∧ k.2 ≤ 100000000000000) (hm1 : m.1 ≤ 100000000000000 ∧ m.2 ≤ 100000000000000) :
    Calls Tryz.prog 21 #[.pointer (some ⟨A.rb, 0, none⟩), .pointer (some ⟨gk, 0, none⟩), .pointer (some ⟨gm, 0, none⟩)] W fun e w' => e = .returned (.bool true) ∧ DdR w0 A gk gm (cnt k (did0 (loseR r).x)) (cnt m (did1 (loseR r).x)) (tkR (loseR r)) w' := by
  obtain ⟨t1, t2, t3, t4, t5, t6, t7⟩ := hd.step
  obtain ⟨ev1, ev2, ev3⟩ := dead_evs (r := loseR r) t4 t5
  have hb : Book (loseR r) := fault_book hd.book 0 0 0
  have HH := hide h
  have HD := hide hd
  have HT := hide t1
  have HEv := hide ev1
  have HC := hide (And.intro ev2 ev3)
  have HI := hide (And.intro t6 t7)
  have HBk := hide hb
  have hln : (events (loseR r).x).length ≤ 2 := t1.len
  have hok : (tkR (loseR r)).ok = true := t2.ok.trans ok
  have HOk := hide hok
  have hct : r.x.c.tries ≤ 7 := hd.book.good.c.tries.2
  have HTr : Hid ((tkR (loseR r)).x.c.tries = r.x.c.tries) := by rw [Hid, t2.x]; show (loseR r).x.c.tries = _; rw [show (loseR r).x.c = r.x.c from (lose_same r.x).2.2.1]
  clear h hd t1 t2 t3 t4 t5 t6 t7 ev1 ev2 ev3 hb ok hok
  go_enter Tryz.func21, Tryz.ntmps21
  go_wp2_with fail
  refine (lose_run _ A r _ HH.out.run HD.out.book.good).mono ?_
  rintro e w1 ⟨rfl, h1, hf1⟩
  have H1 := hide (HH.out.step (r' := loseR r) h1 hf1)
  clear h1 hf1
  go_wp2_with fail
  refine (tick_run _ A (loseR r) _ H1.out.run HBk.out.good (by have := HBk.out.a.j; have e : (loseR r).a = r.a := rfl; rw [this, e]; omega) (by have := HBk.out.b.j; have e : (loseR r).b = r.b := rfl; rw [this, e]; omega) HT.out.evs HT.out.len (HT.out.inc noEv) HT.out.fit (by show r.a.want.length ≤ _; omega) (by show r.b.want.length ≤ _; omega)).mono ?_
  rintro e w2 ⟨v, rfl, hv, h2, hf2⟩
  have HS : Hid (DcR w0 A gk gm k m (tkR (loseR r)) w1.heap.size v (events (loseR r).x) 0 w2) := ⟨H1.out.step (h2.mono fun g z => z.1) hf2, hv⟩
  obtain ⟨va, vcap, hve⟩ := hv.form
  have hsz1 : gk < w1.heap.size ∧ gm < w1.heap.size := ⟨lt_of_block H1.out.ck, lt_of_block H1.out.cm⟩
  generalize w1.heap.size = B at *
  generalize hrr : tkR (loseR r) = r2 at *
  generalize hE : events (loseR r).x = E at *
  subst hve
  have HRR := hide hrr
  clear h2 hf2 hv H1 HT hE hrr
  go_wp2
  go_loopw [8] (fun i wr => ∃ j : Nat, i = .int .i64 j ∧ j ≤ E.length ∧ Hid (DcR w0 A gk gm k m r2 B (.slice va E.length vcap) E j wr)) (fun i _ => E.length - (intOf i).toNat)
  case atStart => exact ⟨0, rfl, by omega, HS⟩
  case round =>
    obtain ⟨j, rfl, hj, HR⟩ := hrel
    obtain ⟨hD, hV⟩ := HR.out
    by_cases hjl : j < E.length
    · have hjl' : (j : Int) < (E.length : Int) := by omega
      have hne : E ≠ [] := fun e => by rw [e] at hjl; simp at hjl
      obtain ⟨g, cap2, eg, hBg, hgl, hgc⟩ := hV.at' hne
      simp only [Value.slice.injEq, true_and] at eg
      obtain ⟨rfl, rfl⟩ := eg
      have g0 := hgc j hjl 0 (by omega)
      have g1 := hgc j hjl 1 (by omega)
      have g2 := hgc j hjl 2 (by omega)
      have g3 := hgc j hjl 3 (by omega)
      have g4 := hgc j hjl 4 (by omega)
      have g5 := hgc j hjl 5 (by omega)
      simp only [evCells, List.getElem?_cons_zero, List.getElem?_cons_succ, Nat.add_zero] at g0 g1 g2 g3 g4 g5
      obtain ⟨hk3, hcase⟩ := HEv.out j hjl
      obtain ⟨_, _, _, _, _, k9⟩ := hD.run.cfg
      rw [HTr.out] at k9
      have hrbk : A.rb ≠ gk ∧ A.rb ≠ gm := hD.run.own.1.2
      have hrbl := hD.run.lt.1
      have hgk : g ≠ gk ∧ g ≠ gm := ⟨by omega, by omega⟩
      have HV := hide hV
      clear hgc hne hV HR HS
      rcases hcase with ⟨hst, ec, hbb⟩ | ⟨hst, ec, hbb⟩
      · have HN0 : Hid (cA k 0 (E.take (j + 1)) = (0, k.2 + 1) ∧ cA m 1 (E.take (j + 1)) = cA m 1 (E.take j)) := by
          rw [Hid, cA_snoc k 0 E j hjl, cA_snoc m 1 E j hjl, hst, ec]
          exact ⟨rfl, rfl⟩
        rw [ec] at hD
        have CK := hide hD.ck
        have HDD := hide hD
        rw [hst] at g1
        have hes : (evV (some (E.getD j noEv)) : Value) = .agg #[.int .i64 (E.getD j noEv).kind, .int .i64 ((0 : Nat) : Int), .int .i64 (E.getD j noEv).number, .string ⟨(E.getD j noEv).msg.head.toArray⟩, .string ⟨(E.getD j noEv).msg.text.toArray⟩, .bool (E.getD j noEv).msg.clear] := by rw [← hst]; rfl
        have HFA := hide (fun W c => failed_any gk k (E.getD j noEv) r.x.c.tries W c hk3 hbb (by omega) hct)
        rw [hes] at HFA
        generalize E.getD j noEv = ev at *
        clear hst ec hD hes hk3
        have hj1 : j = 0 ∨ j = 1 := by omega
        rcases hj1 with rfl | rfl
        · simp only [Nat.zero_mul, Nat.zero_add] at g0 g1 g2 g3 g4 g5
          go_wp2_with fail
          refine region_only (DcA w0 A gk gm k m r2 B (.slice (some ⟨g, 0, none⟩) E.length vcap) E 1 (Tdd A gk gm 0 (.slice (some ⟨g, 0, none⟩) E.length vcap))) ?_ ?_
          · go_region_held3 (fun W => W.cell? ⟨A.rb, 9, none⟩ = some (.int .i64 r.x.c.tries) ∧ W.cell? ⟨g, 0, none⟩ = some (.int .i64 ev.kind) ∧ W.cell? ⟨g, 1, none⟩ = some (.int .i64 ((0 : Nat) : Int)) ∧ W.cell? ⟨g, 2, none⟩ = some (.int .i64 ev.number) ∧ W.cell? ⟨g, 3, none⟩ = some (.string ⟨ev.msg.head.toArray⟩) ∧ W.cell? ⟨g, 4, none⟩ = some (.string ⟨ev.msg.text.toArray⟩) ∧ W.cell? ⟨g, 5, none⟩ = some (.bool ev.msg.clear)) ((first | exact ⟨k9, g0, g1, g2, g3, g4, g5⟩ | exact ⟨(World.cell?_of_block (hf4.block _ hrbl hrbk.1)).trans k9, (World.cell?_of_block (hf4.block _ hgl hgk.1)).trans g0, (World.cell?_of_block (hf4.block _ hgl hgk.1)).trans g1, (World.cell?_of_block (hf4.block _ hgl hgk.1)).trans g2, (World.cell?_of_block (hf4.block _ hgl hgk.1)).trans g3, (World.cell?_of_block (hf4.block _ hgl hgk.1)).trans g4, (World.cell?_of_block (hf4.block _ hgl hgk.1)).trans g5⟩))
              ((go_at_call 38; refine Calls.mono (HFA.out _ ?_) ?_; exact CK.out.keep rfl; rintro x w4 ⟨rfl, hc4, hf4⟩))
            all_goals exact ⟨⟨rfl, rfl⟩, by rw [HN0.out.1, HN0.out.2]; exact HDD.out.setK hc4 (Fr.mk hf4.os hf4.tape hf4.output hf4.size hf4.block), HV.out.row (fun g' e' hl' => hf4.block g' hl' (by simp only [Value.ownBlock, Option.some.injEq] at e'; subst e'; exact hgk.1))⟩
          rintro a5 W5 ⟨htk, hP5⟩
          obtain ⟨u, rfl⟩ := htk.use
          have HK := hide hP5
          clear htk hP5
          go_wp2
          go_roundw
          case rel => exact ⟨1, by go_num, by omega, HK⟩
          case measure => simp [intOf]; omega
        · simp only [Nat.one_mul] at g0 g1 g2 g3 g4 g5
          go_wp2_with fail
          refine region_only (DcA w0 A gk gm k m r2 B (.slice (some ⟨g, 0, none⟩) E.length vcap) E 2 (Tdd A gk gm 1 (.slice (some ⟨g, 0, none⟩) E.length vcap))) ?_ ?_
          · go_region_held3 (fun W => W.cell? ⟨A.rb, 9, none⟩ = some (.int .i64 r.x.c.tries) ∧ W.cell? ⟨g, 6, none⟩ = some (.int .i64 ev.kind) ∧ W.cell? ⟨g, 7, none⟩ = some (.int .i64 ((0 : Nat) : Int)) ∧ W.cell? ⟨g, 8, none⟩ = some (.int .i64 ev.number) ∧ W.cell? ⟨g, 9, none⟩ = some (.string ⟨ev.msg.head.toArray⟩) ∧ W.cell? ⟨g, 10, none⟩ = some (.string ⟨ev.msg.text.toArray⟩) ∧ W.cell? ⟨g, 11, none⟩ = some (.bool ev.msg.clear)) ((first | exact ⟨k9, g0, g1, g2, g3, g4, g5⟩ | exact ⟨(World.cell?_of_block (hf4.block _ hrbl hrbk.1)).trans k9, (World.cell?_of_block (hf4.block _ hgl hgk.1)).trans g0, (World.cell?_of_block (hf4.block _ hgl hgk.1)).trans g1, (World.cell?_of_block (hf4.block _ hgl hgk.1)).trans g2, (World.cell?_of_block (hf4.block _ hgl hgk.1)).trans g3, (World.cell?_of_block (hf4.block _ hgl hgk.1)).trans g4, (World.cell?_of_block (hf4.block _ hgl hgk.1)).trans g5⟩))
              ((go_at_call 38; refine Calls.mono (HFA.out _ ?_) ?_; exact CK.out.keep rfl; rintro x w4 ⟨rfl, hc4, hf4⟩))
            all_goals exact ⟨⟨rfl, rfl⟩, by rw [HN0.out.1, HN0.out.2]; exact HDD.out.setK hc4 (Fr.mk hf4.os hf4.tape hf4.output hf4.size hf4.block), HV.out.row (fun g' e' hl' => hf4.block g' hl' (by simp only [Value.ownBlock, Option.some.injEq] at e'; subst e'; exact hgk.1))⟩
          rintro a5 W5 ⟨htk, hP5⟩
          obtain ⟨u, rfl⟩ := htk.use
          have HK := hide hP5
          clear htk hP5
          go_wp2
          go_roundw
          case rel => exact ⟨2, by go_num, by omega, HK⟩
          case measure => simp [intOf]; omega
      · have HN0 : Hid (cA k 0 (E.take (j + 1)) = cA k 0 (E.take j) ∧ cA m 1 (E.take (j + 1)) = (0, m.2 + 1)) := by
          rw [Hid, cA_snoc k 0 E j hjl, cA_snoc m 1 E j hjl, hst, ec]
          exact ⟨rfl, rfl⟩
        rw [ec] at hD
        have CK := hide hD.cm
        have HDD := hide hD
        rw [hst] at g1
        have hes : (evV (some (E.getD j noEv)) : Value) = .agg #[.int .i64 (E.getD j noEv).kind, .int .i64 ((1 : Nat) : Int), .int .i64 (E.getD j noEv).number, .string ⟨(E.getD j noEv).msg.head.toArray⟩, .string ⟨(E.getD j noEv).msg.text.toArray⟩, .bool (E.getD j noEv).msg.clear] := by rw [← hst]; rfl
        have HFA := hide (fun W c => failed_any gm m (E.getD j noEv) r.x.c.tries W c hk3 hbb (by omega) hct)
        rw [hes] at HFA
        generalize E.getD j noEv = ev at *
        clear hst ec hD hes hk3
        have hj1 : j = 0 ∨ j = 1 := by omega
        rcases hj1 with rfl | rfl
        · simp only [Nat.zero_mul, Nat.zero_add] at g0 g1 g2 g3 g4 g5
          go_wp2_with fail
          refine region_only (DcA w0 A gk gm k m r2 B (.slice (some ⟨g, 0, none⟩) E.length vcap) E 1 (Tdd A gk gm 0 (.slice (some ⟨g, 0, none⟩) E.length vcap))) ?_ ?_
          · go_region_held3 (fun W => W.cell? ⟨A.rb, 9, none⟩ = some (.int .i64 r.x.c.tries) ∧ W.cell? ⟨g, 0, none⟩ = some (.int .i64 ev.kind) ∧ W.cell? ⟨g, 1, none⟩ = some (.int .i64 ((1 : Nat) : Int)) ∧ W.cell? ⟨g, 2, none⟩ = some (.int .i64 ev.number) ∧ W.cell? ⟨g, 3, none⟩ = some (.string ⟨ev.msg.head.toArray⟩) ∧ W.cell? ⟨g, 4, none⟩ = some (.string ⟨ev.msg.text.toArray⟩) ∧ W.cell? ⟨g, 5, none⟩ = some (.bool ev.msg.clear)) ((first | exact ⟨k9, g0, g1, g2, g3, g4, g5⟩ | exact ⟨(World.cell?_of_block (hf4.block _ hrbl hrbk.2)).trans k9, (World.cell?_of_block (hf4.block _ hgl hgk.2)).trans g0, (World.cell?_of_block (hf4.block _ hgl hgk.2)).trans g1, (World.cell?_of_block (hf4.block _ hgl hgk.2)).trans g2, (World.cell?_of_block (hf4.block _ hgl hgk.2)).trans g3, (World.cell?_of_block (hf4.block _ hgl hgk.2)).trans g4, (World.cell?_of_block (hf4.block _ hgl hgk.2)).trans g5⟩))
              ((go_at_call 38; refine Calls.mono (HFA.out _ ?_) ?_; exact CK.out.keep rfl; rintro x w4 ⟨rfl, hc4, hf4⟩))
            all_goals exact ⟨⟨rfl, rfl⟩, by rw [HN0.out.1, HN0.out.2]; exact HDD.out.setM hc4 (Fr.mk hf4.os hf4.tape hf4.output hf4.size hf4.block), HV.out.row (fun g' e' hl' => hf4.block g' hl' (by simp only [Value.ownBlock, Option.some.injEq] at e'; subst e'; exact hgk.2))⟩
          rintro a5 W5 ⟨htk, hP5⟩
          obtain ⟨u, rfl⟩ := htk.use
          have HK := hide hP5
          clear htk hP5
          go_wp2
          go_roundw
          case rel => exact ⟨1, by go_num, by omega, HK⟩
          case measure => simp [intOf]; omega
        · simp only [Nat.one_mul] at g0 g1 g2 g3 g4 g5
          go_wp2_with fail
          refine region_only (DcA w0 A gk gm k m r2 B (.slice (some ⟨g, 0, none⟩) E.length vcap) E 2 (Tdd A gk gm 1 (.slice (some ⟨g, 0, none⟩) E.length vcap))) ?_ ?_
          · go_region_held3 (fun W => W.cell? ⟨A.rb, 9, none⟩ = some (.int .i64 r.x.c.tries) ∧ W.cell? ⟨g, 6, none⟩ = some (.int .i64 ev.kind) ∧ W.cell? ⟨g, 7, none⟩ = some (.int .i64 ((1 : Nat) : Int)) ∧ W.cell? ⟨g, 8, none⟩ = some (.int .i64 ev.number) ∧ W.cell? ⟨g, 9, none⟩ = some (.string ⟨ev.msg.head.toArray⟩) ∧ W.cell? ⟨g, 10, none⟩ = some (.string ⟨ev.msg.text.toArray⟩) ∧ W.cell? ⟨g, 11, none⟩ = some (.bool ev.msg.clear)) ((first | exact ⟨k9, g0, g1, g2, g3, g4, g5⟩ | exact ⟨(World.cell?_of_block (hf4.block _ hrbl hrbk.2)).trans k9, (World.cell?_of_block (hf4.block _ hgl hgk.2)).trans g0, (World.cell?_of_block (hf4.block _ hgl hgk.2)).trans g1, (World.cell?_of_block (hf4.block _ hgl hgk.2)).trans g2, (World.cell?_of_block (hf4.block _ hgl hgk.2)).trans g3, (World.cell?_of_block (hf4.block _ hgl hgk.2)).trans g4, (World.cell?_of_block (hf4.block _ hgl hgk.2)).trans g5⟩))
              ((go_at_call 38; refine Calls.mono (HFA.out _ ?_) ?_; exact CK.out.keep rfl; rintro x w4 ⟨rfl, hc4, hf4⟩))
            all_goals exact ⟨⟨rfl, rfl⟩, by rw [HN0.out.1, HN0.out.2]; exact HDD.out.setM hc4 (Fr.mk hf4.os hf4.tape hf4.output hf4.size hf4.block), HV.out.row (fun g' e' hl' => hf4.block g' hl' (by simp only [Value.ownBlock, Option.some.injEq] at e'; subst e'; exact hgk.2))⟩
          rintro a5 W5 ⟨htk, hP5⟩
          obtain ⟨u, rfl⟩ := htk.use
          have HK := hide hP5
          clear htk hP5
          go_wp2
          go_roundw
          case rel => exact ⟨2, by go_num, by omega, HK⟩
          case measure => simp [intOf]; omega
    · have hjl' : ¬ (j : Int) < (E.length : Int) := by omega
      have hje : j = E.length := by omega
      rw [hje, List.take_length] at hD
      obtain ⟨c0, _⟩ := hD.run.cells
      have hke := cA_le k 0 E
      have hme := cA_le m 1 E
      have HC2 := hide HC.out
      have HI2 := hide HI.out
      have HD0 := hide hD
      clear hV HR HS hje hjl hD HEv HC HI
      generalize cA k 0 E = ke at *
      generalize cA m 1 E = me at *
      go_wp2_with fail
      refine (onLine_run _ A r2 0 _ HD0.out.run).mono ?_
      rintro e w3 ⟨rfl, hb3⟩
      have H3 := hide (HD0.out.below hb3)
      obtain ⟨c0', _⟩ := H3.out.run.cells
      clear hb3 c0
      go_wp2_with fail
      refine (onLine_run _ A r2 1 _ H3.out.run).mono ?_
      rintro e w4 ⟨rfl, hb4⟩
      have H4 := hide (H3.out.below hb4)
      obtain ⟨_, _, _, _, _, _, c16, _⟩ := H4.out.run.cells
      rw [HOk.out] at c16
      obtain ⟨x0, _, xf⟩ := H4.out.ck.cell
      obtain ⟨y0, _, yf⟩ := H4.out.cm.cell
      have xf0 := xf 0
      have yf0 := yf 0
      have hrk : A.rb ≠ gk ∧ A.rb ≠ gm := H4.out.run.own.1.2
      have hkm : gk ≠ gm := H4.out.ne
      have wk : IntKind.i64.wrap ((ke.1 : Int) + 1) = (ke.1 : Int) + 1 := by rw [IntKind.wrap_i64]; omega
      have wm : IntKind.i64.wrap ((me.1 : Int) + 1) = (me.1 : Int) + 1 := by rw [IntKind.wrap_i64]; omega
      have ek : ((ke.1 + 1 : Nat) : Int) = (ke.1 : Int) + 1 := by omega
      have em : ((me.1 + 1 : Nat) : Int) = (me.1 : Int) + 1 := by omega
      rw [show onOf r2.x 0 = r2.x.on0 from rfl, show onOf r2.x 1 = r2.x.on1 from rfl]
      clear hb4 c0' xf yf
      generalize hs0 : (⟨r2.x.on0.toArray⟩ : ByteArray) = s0
      generalize hs1 : (⟨r2.x.on1.toArray⟩ : ByteArray) = s1
      by_cases h0 : r2.x.on0 = bidL
      · have j0 := bytes_bid _ h0 hs0
        by_cases h1 : r2.x.on1 = bidL
        · have j1 := bytes_bid _ h1 hs1
          have HE : Hid (cnt k (did0 (loseR r).x) = (ke.1 + 1, ke.2) ∧ cnt m (did1 (loseR r).x) = (me.1 + 1, me.2)) := by
            rw [Hid, HC2.out.1, HC2.out.2, HI2.out.1, HI2.out.2, if_pos h0, if_pos h1]
            exact ⟨rfl, rfl⟩
          have hK := ((H4.out.setK (k' := (ke.1 + 1, ke.2)) (H4.out.ck.set0 (ke.1 + 1)) (fr_set 0 _)).setM (m' := (me.1 + 1, me.2)) ((H4.out.setK (k' := (ke.1 + 1, ke.2)) (H4.out.ck.set0 (ke.1 + 1)) (fr_set 0 _)).cm.set0 (me.1 + 1)) (fr_set 0 _))
          (try simp only [ek, em] at hK)
          have HK := hide hK
          clear h0 h1 hs0 hs1 hK
          go_wp2
          go_ret
          refine ⟨rfl, ?_⟩
          rw [HE.out.1, HE.out.2, HRR.out]
          exact HK.out
        · obtain ⟨j1, j1'⟩ := bytes_nobid _ h1 hs1
          have HE : Hid (cnt k (did0 (loseR r).x) = (ke.1 + 1, ke.2) ∧ cnt m (did1 (loseR r).x) = (me.1 + 0, me.2)) := by
            rw [Hid, HC2.out.1, HC2.out.2, HI2.out.1, HI2.out.2, if_pos h0, if_neg h1]
            exact ⟨rfl, rfl⟩
          have hK := (H4.out.setK (k' := (ke.1 + 1, ke.2)) (H4.out.ck.set0 (ke.1 + 1)) (fr_set 0 _))
          (try simp only [ek, em] at hK)
          have HK := hide hK
          clear h0 h1 hs0 hs1 hK
          go_wp2
          go_ret
          refine ⟨rfl, ?_⟩
          rw [HE.out.1, HE.out.2, HRR.out]
          exact HK.out
      · obtain ⟨j0, j0'⟩ := bytes_nobid _ h0 hs0
        by_cases h1 : r2.x.on1 = bidL
        · have j1 := bytes_bid _ h1 hs1
          have HE : Hid (cnt k (did0 (loseR r).x) = (ke.1 + 0, ke.2) ∧ cnt m (did1 (loseR r).x) = (me.1 + 1, me.2)) := by
            rw [Hid, HC2.out.1, HC2.out.2, HI2.out.1, HI2.out.2, if_neg h0, if_pos h1]
            exact ⟨rfl, rfl⟩
          have hK := (H4.out.setM (m' := (me.1 + 1, me.2)) (H4.out.cm.set0 (me.1 + 1)) (fr_set 0 _))
          (try simp only [ek, em] at hK)
          have HK := hide hK
          clear h0 h1 hs0 hs1 hK
          go_wp2
          go_ret
          refine ⟨rfl, ?_⟩
          rw [HE.out.1, HE.out.2, HRR.out]
          exact HK.out
        · obtain ⟨j1, j1'⟩ := bytes_nobid _ h1 hs1
          have HE : Hid (cnt k (did0 (loseR r).x) = (ke.1 + 0, ke.2) ∧ cnt m (did1 (loseR r).x) = (me.1 + 0, me.2)) := by
            rw [Hid, HC2.out.1, HC2.out.2, HI2.out.1, HI2.out.2, if_neg h0, if_neg h1]
            exact ⟨rfl, rfl⟩
          have hK := H4.out
          (try simp only [ek, em] at hK)
          have HK := hide hK
          clear h0 h1 hs0 hs1 hK
          go_wp2
          go_ret
          refine ⟨rfl, ?_⟩
          rw [HE.out.1, HE.out.2, HRR.out]
          exact HK.out
end Go.Proofs.YtlbpjcphhocdkabGreatDoor
