/-The dead line: within a bound all messages have failed; then there is silence. -/
import Derived.Test.YtlbpjcphhocdkabGreatDoorGDed
namespace Go.Proofs.YtlbpjcphhocdkabGreatDoor
set_option maxRecDepth 1000000
open Go.RowKit Go.Proofs.YtlbpjcphhocdkabGreatDoor.Mod Go.Proofs.YtlbpjcphhocdkabGreatDoor.Pst Go.Proofs.YtlbpjcphhocdkabGreatDoor.Run

def Td8 (A : RA) (gk gm a9 b9 : Nat) (a : Act) : Prop := a.defers = [] ∧ a.tmps = List.toArray (a.tmps.getD 0 undef :: a.tmps.getD 1 undef :: a.tmps.getD 2 undef :: a.tmps.getD 3 undef :: .bool false :: .pointer (some ⟨A.rb, 0, none⟩) :: .pointer (some ⟨gk, 0, none⟩) :: .pointer (some ⟨gm, 0, none⟩) :: a.tmps.getD 8 undef :: .int .i64 ((a9 : Int) + (b9 : Int)) :: a.tmps.getD 10 undef :: a.tmps.getD 11 undef :: a.tmps.getD 12 undef :: a.tmps.getD 13 undef :: a.tmps.getD 14 undef :: a.tmps.getD 15 undef :: a.tmps.getD 16 undef :: a.tmps.getD 17 undef :: a.tmps.getD 18 undef :: a.tmps.getD 19 undef :: a.tmps.getD 20 undef :: a.tmps.getD 21 undef :: a.tmps.getD 22 undef :: a.tmps.getD 23 undef :: a.tmps.getD 24 undef :: a.tmps.getD 25 undef :: a.tmps.getD 26 undef :: a.tmps.getD 27 undef :: a.tmps.getD 28 undef :: a.tmps.getD 29 undef :: a.tmps.getD 30 undef :: a.tmps.getD 31 undef :: a.tmps.getD 32 undef :: a.tmps.getD 33 undef :: a.tmps.getD 34 undef :: a.tmps.getD 35 undef :: a.tmps.getD 36 undef :: a.tmps.getD 37 undef :: a.tmps.getD 38 undef :: a.tmps.getD 39 undef :: a.tmps.getD 40 undef :: a.tmps.getD 41 undef :: a.tmps.getD 42 undef :: a.tmps.getD 43 undef :: a.tmps.getD 44 undef :: a.tmps.getD 45 undef :: a.tmps.getD 46 undef :: a.tmps.getD 47 undef :: a.tmps.getD 48 undef :: a.tmps.getD 49 undef :: a.tmps.getD 50 undef :: a.tmps.getD 51 undef :: a.tmps.getD 52 undef :: a.tmps.getD 53 undef :: a.tmps.getD 54 undef :: a.tmps.getD 55 undef :: a.tmps.getD 56 undef :: a.tmps.getD 57 undef :: a.tmps.getD 58 undef :: a.tmps.getD 59 undef :: a.tmps.getD 60 undef :: a.tmps.getD 61 undef :: a.tmps.getD 62 undef :: a.tmps.getD 63 undef :: a.tmps.getD 64 undef :: a.tmps.getD 65 undef :: a.tmps.getD 66 undef :: a.tmps.getD 67 undef :: a.tmps.getD 68 undef :: a.tmps.getD 69 undef :: a.tmps.getD 70 undef :: a.tmps.getD 71 undef :: a.tmps.getD 72 undef :: a.tmps.getD 73 undef :: a.tmps.getD 74 undef :: a.tmps.getD 75 undef :: a.tmps.getD 76 undef :: a.tmps.getD 77 undef :: a.tmps.getD 78 undef :: a.tmps.getD 79 undef :: a.tmps.getD 80 undef :: a.tmps.getD 81 undef :: a.tmps.getD 82 undef :: a.tmps.getD 83 undef :: a.tmps.getD 84 undef :: a.tmps.getD 85 undef :: a.tmps.getD 86 undef :: a.tmps.getD 87 undef :: a.tmps.getD 88 undef :: a.tmps.getD 89 undef :: a.tmps.getD 90 undef :: a.tmps.getD 91 undef :: a.tmps.getD 92 undef :: a.tmps.getD 93 undef :: a.tmps.getD 94 undef :: a.tmps.getD 95 undef :: a.tmps.getD 96 undef :: a.tmps.getD 97 undef :: a.tmps.getD 98 undef :: a.tmps.getD 99 undef :: a.tmps.getD 100 undef :: a.tmps.getD 101 undef :: a.tmps.getD 102 undef :: a.tmps.getD 103 undef :: a.tmps.getD 104 undef :: a.tmps.getD 105 undef :: a.tmps.getD 106 undef :: a.tmps.getD 107 undef :: a.tmps.getD 108 undef :: a.tmps.getD 109 undef :: a.tmps.getD 110 undef :: a.tmps.getD 111 undef :: a.tmps.getD 112 undef :: a.tmps.getD 113 undef :: a.tmps.getD 114 undef :: a.tmps.getD 115 undef :: a.tmps.getD 116 undef :: a.tmps.getD 117 undef :: a.tmps.getD 118 undef :: a.tmps.getD 119 undef :: a.tmps.getD 120 undef :: a.tmps.getD 121 undef :: a.tmps.getD 122 undef :: a.tmps.getD 123 undef :: a.tmps.getD 124 undef :: a.tmps.getD 125 undef :: a.tmps.getD 126 undef :: a.tmps.getD 127 undef :: a.tmps.getD 128 undef :: a.tmps.getD 129 undef :: [])
theorem Td8.use {A : RA} {gk gm a9 b9 : Nat} {a : Act} (h : Td8 A gk gm a9 b9 a) : ∃ u : Nat → Value, a = { tmps := List.toArray (u 0 :: u 1 :: u 2 :: u 3 :: .bool false :: .pointer (some ⟨A.rb, 0, none⟩) :: .pointer (some ⟨gk, 0, none⟩) :: .pointer (some ⟨gm, 0, none⟩) :: u 8 :: .int .i64 ((a9 : Int) + (b9 : Int)) :: u 10 :: u 11 :: u 12 :: u 13 :: u 14 :: u 15 :: u 16 :: u 17 :: u 18 :: u 19 :: u 20 :: u 21 :: u 22 :: u 23 :: u 24 :: u 25 :: u 26 :: u 27 :: u 28 :: u 29 :: u 30 :: u 31 :: u 32 :: u 33 :: u 34 :: u 35 :: u 36 :: u 37 :: u 38 :: u 39 :: u 40 :: u 41 :: u 42 :: u 43 :: u 44 :: u 45 :: u 46 :: u 47 :: u 48 :: u 49 :: u 50 :: u 51 :: u 52 :: u 53 :: u 54 :: u 55 :: u 56 :: u 57 :: u 58 :: u 59 :: u 60 :: u 61 :: u 62 :: u 63 :: u 64 :: u 65 :: u 66 :: u 67 :: u 68 :: u 69 :: u 70 :: u 71 :: u 72 :: u 73 :: u 74 :: u 75 :: u 76 :: u 77 :: u 78 :: u 79 :: u 80 :: u 81 :: u 82 :: u 83 :: u 84 :: u 85 :: u 86 :: u 87 :: u 88 :: u 89 :: u 90 :: u 91 :: u 92 :: u 93 :: u 94 :: u 95 :: u 96 :: u 97 :: u 98 :: u 99 :: u 100 :: u 101 :: u 102 :: u 103 :: u 104 :: u 105 :: u 106 :: u 107 :: u 108 :: u 109 :: u 110 :: u 111 :: u 112 :: u 113 :: u 114 :: u 115 :: u 116 :: u 117 :: u 118 :: u 119 :: u 120 :: u 121 :: u 122 :: u 123 :: u 124 :: u 125 :: u 126 :: u 127 :: u 128 :: u 129 :: []), defers := [] } := ⟨fun i => a.tmps.getD i undef, by obtain ⟨h1, h2⟩ := h; cases a; simp only at h1 h2; subst h1; exact congrArg (fun t => ({ tmps := t, defers := [] } : Act)) h2⟩

theorem DdR.start {w0 W : World} {A : RA} {r : R} (h : Hs w0 W A r) : DdR w0 A W.heap.size (W.heap.size + 1) (0, 0) (0, 0) r ((W.alloc (.cells #[.int .i64 0, .int .i64 0] 55)).alloc (.cells #[.int .i64 0, .int .i64 0] 55)) := by
  have sz : ∀ (W : World) (o : Obj), (W.alloc o).heap.size = W.heap.size + 1 := fun W o => by show (W.heap.push o).size = _; exact Array.size_push _
  have b1 := Below.alloc (Below.refl W.heap.size W) (Nat.le_refl _) (.cells #[.int .i64 0, .int .i64 0] 55)
  have c1 : CntAt (W.alloc (.cells #[.int .i64 0, .int .i64 0] 55)) W.heap.size (0, 0) := heap_alloc_new W _
  have s1 := sz W (.cells #[.int .i64 0, .int .i64 0] 55)
  generalize W.alloc (.cells #[.int .i64 0, .int .i64 0] 55) = W1 at *
  have b2 := Below.alloc (Below.refl W1.heap.size W1) (Nat.le_refl _) (.cells #[.int .i64 0, .int .i64 0] 55)
  have c2 : CntAt (W1.alloc (.cells #[.int .i64 0, .int .i64 0] 55)) W1.heap.size (0, 0) := heap_alloc_new W1 _
  rw [s1] at c2
  have bb := below_step (below_step h.2 b1) b2
  refine ⟨((h.bound.below b1).below b2).mono fun g z => ⟨z.1, by omega, by omega⟩, bb, c1.keep (b2.block _ (by omega)), c2, h.2.size, by have := h.2.size; omega, by omega⟩
theorem cnt_le (k : Nat × Nat) (d : Did) : (cnt k d).1 ≤ k.1 + 1 ∧ (cnt k d).2 ≤ k.2 + 1 := by
  have : isBid d.2.1 ≤ 1 := by unfold isBid; split <;> omega
  unfold cnt
  split
  · exact ⟨by simp only; omega, Nat.le_refl _⟩
  · exact ⟨by simp only; omega, by simp only; omega⟩
/-- On the dead line; kk: how many ticks more. -/
structure DP (n kk : Nat) (r : R) (k m : Nat × Nat) : Prop where
  d : Ded r k m
  ok : r.ok = true
  la : r.a.want.length ≤ n
  lb : r.b.want.length ≤ n
  k1 : k.1 + kk ≤ 1000000 ∧ k.2 + kk ≤ 1000000
  m1 : m.1 + kk ≤ 1000000 ∧ m.2 + kk ≤ 1000000
theorem DP.step {n kk : Nat} {r : R} {k m : Nat × Nat} (h : DP n (kk + 1) r k m) : DP n kk (tkR (loseR r)) (cnt k (did0 (loseR r).x)) (cnt m (did1 (loseR r).x)) := by
  obtain ⟨_, t, d, _⟩ := h.d.step
  have a := cnt_le k (did0 (loseR r).x)
  have b := cnt_le m (did1 (loseR r).x)
  have := h.k1
  have := h.m1
  refine ⟨d, t.ok.trans h.ok, ?_, ?_, ?_, ?_⟩
  · rw [t.a, sideN_want]; exact h.la
  · rw [t.b, sideN_want]; exact h.lb
  · omega
  · omega
theorem DP.less {n kk j : Nat} {r : R} {k m : Nat × Nat} (h : DP n kk r k m) (hj : j ≤ 900000) (hk : kk + j ≤ kk ∨ k.1 ≤ 50000 ∧ k.2 ≤ 50000 ∧ m.1 ≤ 50000 ∧ m.2 ≤ 50000) : DP n j r k m :=
  ⟨h.d, h.ok, h.la, h.lb, by have := h.k1; omega, by have := h.m1; omega⟩
/-- First loop: till all have failed. -/
def DlR (w0 : World) (A : RA) (gk gm n kk : Nat) (W : World) : Prop := ∃ r k m, DdR w0 A gk gm k m r W ∧ DP n (kk + 300) r k m ∧ Tl r kk
/-- Second loop: silence. -/
def DsR (w0 : World) (A : RA) (gk gm n D lo kk : Nat) (W : World) : Prop := ∃ r k m, DdR w0 A gk gm k m r W ∧ DP n kk r k m ∧ Sil D r.x.s0 r.x.s1 ∧ D + 3 ≤ r.x.now + kk ∧ (kk = lo + 3 ∨ (r.x.on0 = [] ∧ r.x.on1 = [])) ∧ leftN r = 0
def DdA (w0 : World) (A : RA) (gk gm : Nat) (r : R) (T : Act → Prop) (a : Act) (W : World) : Prop := T a ∧ DdR w0 A gk gm (0, 0) (0, 0) r W
theorem Ded.new {r : R} (h : Book r) (hw : r.wild = true) : Ded r (0, 0) (0, 0) := ⟨h, hw, Or.inl rfl, Or.inl rfl⟩
theorem dead_call (w0 : World) (A : RA) (gk gm n kk : Nat) (r : R) (k m : Nat × Nat) (W : World) (h : DdR w0 A gk gm k m r W) (hp : DP n kk r k m) (hn : n ≤ 3000000000000) :
    Calls Tryz.prog 21 #[.pointer (some ⟨A.rb, 0, none⟩), .pointer (some ⟨gk, 0, none⟩), .pointer (some ⟨gm, 0, none⟩)] W fun e w' => e = .returned (.bool true) ∧ DdR w0 A gk gm (cnt k (did0 (loseR r).x)) (cnt m (did1 (loseR r).x)) (tkR (loseR r)) w' :=
  dead_h w0 A gk gm k m r W h hp.d hp.ok (by have := hp.la; omega) (by have := hp.lb; omega) (by have := hp.k1; omega) (by have := hp.m1; omega)
theorem left_d (w0 : World) (A : RA) (gk gm n kk : Nat) (r : R) (k m : Nat × Nat) (W : World) (h : DdR w0 A gk gm k m r W) (hp : DP n kk r k m) (hn : n ≤ 3000000000000) :
    Calls Tryz.prog 15 #[.pointer (some ⟨A.rb, 0, none⟩)] W fun e w' => e = .returned (.int .i64 (leftN r)) ∧ ∃ n, w' = W.drewN n :=
  left_run _ A r W h.run hp.d.book.a.t hp.d.book.b.t (by have := hp.la; omega) (by have := hp.lb; omega)
end Go.Proofs.YtlbpjcphhocdkabGreatDoor
