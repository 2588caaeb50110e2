/-The harness over the world that it began in; a run is begun. A script is played. -/
import Derived.Test.YtlbpjcphhocdkabGreatDoorGKb
import Derived.Test.YtlbpjcphhocdkabGreatDoorGKf
namespace Go.Proofs.YtlbpjcphhocdkabGreatDoor
set_option maxRecDepth 1000000
open Go.RowKit Go.Proofs.YtlbpjcphhocdkabGreatDoor.Mod Go.Proofs.YtlbpjcphhocdkabGreatDoor.Pst Go.Proofs.YtlbpjcphhocdkabGreatDoor.Run

/-- The run, all of it in blocks that are younger than w0. -/
def Hs (w0 W : World) (A : RA) (r : R) : Prop := RunAt W (fun g => w0.heap.size ≤ g) A r ∧ Below w0.heap.size w0 W
theorem Fr.toBelow {S : Nat → Prop} {w0 W W' : World} (h : Fr S W W') (hb : Below w0.heap.size w0 W) (hS : ∀ g, S g → w0.heap.size ≤ g) : Below w0.heap.size w0 W' :=
  ⟨h.os.trans hb.os, h.tape.trans hb.tape, h.output.trans hb.output, Nat.le_trans hb.size h.size, fun g hg => (h.block g (by have := hb.size; omega) (fun k => by have := hS g k; omega)).trans (hb.block g hg)⟩
theorem Hs.below {w0 W W' : World} {A : RA} {r : R} (h : Hs w0 W A r) (k : Below W.heap.size W W') : Hs w0 W' A r := ⟨h.1.below k, below_step h.2 k⟩
theorem Hs.drewN {w0 W : World} {A : RA} {r : R} (h : Hs w0 W A r) (n : Nat) : Hs w0 (W.drewN n) A r := h.below (below_drewN (Below.refl _ _) n)
theorem Hs.plus {w0 W W' : World} {S : Nat → Prop} {A : RA} {r : R} (hb : Below w0.heap.size w0 W) (hS : ∀ g, S g → w0.heap.size ≤ g) (h : RunAt W' (Plus S W) A r) (hf : Fr S W W') : Hs w0 W' A r :=
  ⟨h.mono fun g k => k.elim (hS g) (fun y => by have := hb.size; omega), hf.toBelow hb hS⟩
/-- The run's blocks, those that there are. -/
theorem Hs.bound {w0 W : World} {A : RA} {r : R} (h : Hs w0 W A r) : RunAt W (fun g => w0.heap.size ≤ g ∧ g < W.heap.size) A r := h.1.bound

def sideZ : Array Value := #[.slice none 0 0, .int .i64 0, .bool false, .int .i64 0]
theorem RunAt.new {w0 w2 : World} {b : Nat} {c : Cfg} (hw : w0.heap.size ≤ w2.heap.size) (hl : LineAt w2 (fun g => w0.heap.size ≤ g) b (newL c)) (wild : Bool) :
    RunAt (((w2.alloc (.cells sideZ 41)).alloc (.cells sideZ 41)).alloc (.cells (rcells ⟨w2.heap.size + 1 + 1, b, w2.heap.size, w2.heap.size + 1⟩ (newR c wild)) 33)) (fun g => w0.heap.size ≤ g) ⟨w2.heap.size + 1 + 1, b, w2.heap.size, w2.heap.size + 1⟩ (newR c wild) := by
  have sz : ∀ (W : World) (o : Obj), (W.alloc o).heap.size = W.heap.size + 1 := fun W o => by show (W.heap.push o).size = _; exact Array.size_push _
  have ab : ∀ (W : World) (o : Obj) (g : Nat), g < W.heap.size → (W.alloc o).heap[g]? = W.heap[g]? := fun W o g hg => (Below.alloc (Below.refl W.heap.size W) (Nat.le_refl _) o).block g hg
  generalize hrc : rcells ⟨w2.heap.size + 1 + 1, b, w2.heap.size, w2.heap.size + 1⟩ (newR c wild) = rc
  have h0 : (((w2.alloc (.cells sideZ 41)).alloc (.cells sideZ 41)).alloc (.cells rc 33)).heap[w2.heap.size]? = some (.cells sideZ 41 (0, 0)) := by
    rw [ab _ _ _ (by rw [sz, sz]; omega), ab _ _ _ (by rw [sz]; omega)]
    exact heap_alloc_new w2 _
  have h1 : (((w2.alloc (.cells sideZ 41)).alloc (.cells sideZ 41)).alloc (.cells rc 33)).heap[w2.heap.size + 1]? = some (.cells sideZ 41 (0, 0)) := by
    rw [ab _ _ _ (by rw [sz, sz]; omega), ← sz w2 (.cells sideZ 41)]
    exact heap_alloc_new _ _
  have h2 : (((w2.alloc (.cells sideZ 41)).alloc (.cells sideZ 41)).alloc (.cells rc 33)).heap[w2.heap.size + 1 + 1]? = some (.cells rc 33 (0, 0)) := by
    rw [← sz w2 (.cells sideZ 41), ← sz (w2.alloc (.cells sideZ 41)) (.cells sideZ 41)]
    exact heap_alloc_new _ _
  have hk : ∀ g, g < w2.heap.size → (((w2.alloc (.cells sideZ 41)).alloc (.cells sideZ 41)).alloc (.cells rc 33)).heap[g]? = w2.heap[g]? := fun g hg => by
    rw [ab _ _ _ (by rw [sz, sz]; omega), ab _ _ _ (by rw [sz]; omega), ab _ _ _ hg]
  have hsz : (((w2.alloc (.cells sideZ 41)).alloc (.cells sideZ 41)).alloc (.cells rc 33)).heap.size = w2.heap.size + 3 := by rw [sz, sz, sz]
  generalize (((w2.alloc (.cells sideZ 41)).alloc (.cells sideZ 41)).alloc (.cells rc 33)) = W at *
  refine ⟨fun g => if g = w2.heap.size + 1 + 1 then 1 else if g = w2.heap.size then 2 else if g = w2.heap.size + 1 then 3 else if w0.heap.size ≤ g ∧ g < w2.heap.size then 4 else 0, ⟨?_, ?_, ?_, ?_, ?_, ?_, ?_⟩, ?_⟩
  · show W.heap[w2.heap.size + 1 + 1]? = _
    rw [h2, ← hrc]
  · refine (hl.bound.keep (w' := W) (by omega) ?_).mono ?_
    · rintro g ⟨_, z⟩ _
      exact hk g z
    · rintro g ⟨y, z⟩
      rw [if_neg (by omega), if_neg (by omega), if_neg (by omega), if_pos ⟨y, z⟩]
  · exact ⟨_, h0, QAt.nil _ _⟩
  · exact ⟨_, h1, QAt.nil _ _⟩
  · exact if_pos rfl
  · show (if w2.heap.size = w2.heap.size + 1 + 1 then 1 else if w2.heap.size = w2.heap.size then 2 else _) = 2
    rw [if_neg (by omega), if_pos rfl]
  · show (if w2.heap.size + 1 = w2.heap.size + 1 + 1 then 1 else if w2.heap.size + 1 = w2.heap.size then 2 else if w2.heap.size + 1 = w2.heap.size + 1 then 3 else _) = 3
    rw [if_neg (by omega), if_neg (by omega), if_pos rfl]
  · intro g hg
    by_cases z : w0.heap.size ≤ g ∧ g < w2.heap.size + 3
    · exact ⟨z.1, by omega⟩
    · exfalso
      apply hg
      show (if g = w2.heap.size + 1 + 1 then 1 else if g = w2.heap.size then 2 else if g = w2.heap.size + 1 then 3 else if w0.heap.size ≤ g ∧ g < w2.heap.size then 4 else 0) = 0
      rw [if_neg (by omega), if_neg (by omega), if_neg (by omega), if_neg (by omega)]

/-- A run that has begun. -/
def Beg (wild : Bool) (r : R) : Prop := ∃ c m, c.Ok ∧ MsgFit m ∧ r = saidR (newR c wild) 0 m
theorem Beg.pi {wild : Bool} {r : R} (h : Beg wild r) : PI wild 1 r := by
  obtain ⟨c, m, hc, hm, rfl⟩ := h
  exact (PI.new hc wild).said (Or.inl rfl) hm

set_option maxHeartbeats 4000000 in
theorem begin_run (a0 a1 a2 a3 a4 a5 a6 a7 a8 a9 : Int) (wild : Bool) (w : World) (i0 : I64 a0) (i1 : I64 a1) (i2 : I64 a2) (i3 : I64 a3) (i4 : I64 a4) (i5 : I64 a5) (i6 : I64 a6) (i7 : I64 a7) (i8 : I64 a8) (i9 : I64 a9) (ht : Tab w w.heap.size) :
    Calls Tryz.prog 10 #[rawV a0 a1 a2 a3 a4 a5 a6 a7 a8 a9, .bool wild] w fun e w' => ∃ A r, e = .returned (.pointer (some ⟨A.rb, 0, none⟩)) ∧ Hs w w' A r ∧ Beg wild r := by
  have HF := hide (fun W => fit_any a0 a1 a2 a3 a4 a5 a6 a7 a8 a9 W i0 i1 i2 i3 i4 i5 i6 i7 i8 i9)
  have HT := hide ht
  unfold rawV at *
  clear i0 i1 i2 i3 i4 i5 i6 i7 i8 i9 ht
  go_enter Tryz.func10, Tryz.ntmps10
  go_wp2_with fail
  refine (HF.out _).mono ?_
  rintro e w1 ⟨c, hc, rfl, hb1⟩
  have HB1 := hide (below_step ((Below.refl w.heap.size w).alloc (Nat.le_refl _) _) hb1)
  have HC := hide hc
  clear hb1 hc HF
  unfold cfgV
  go_wp2_with fail
  have X0 : CfgAt (w1.alloc (.cells (cfgCells c) 23)) w1.heap.size c := heap_alloc_new w1 _
  unfold cfgCells at X0
  have HA := hide (below_step HB1.out ((Below.refl w1.heap.size w1).alloc (Nat.le_refl _) (.cells #[.int .i64 c.check, .int .i64 c.size, .int .i64 c.parts, .int .i64 c.queue, .int .i64 c.first, .int .i64 c.second, .int .i64 c.reply, .int .i64 c.lost, .int .i64 c.tries, .int .i64 c.waits] 23)))
  generalize hWe : w1.alloc (.cells #[.int .i64 c.check, .int .i64 c.size, .int .i64 c.parts, .int .i64 c.queue, .int .i64 c.first, .int .i64 c.second, .int .i64 c.reply, .int .i64 c.lost, .int .i64 c.tries, .int .i64 c.waits] 23) = W1 at *
  have hlt1 := lt_of_block X0
  clear hWe
  refine (new_line c _ HC.out).mono ?_
  rintro e w2 ⟨b, rfl, hb, hl, hb2⟩
  have X2 : w2.heap[w1.heap.size]? = _ := (hb2.block _ hlt1).trans X0
  have HB2 := hide (below_step HA.out hb2)
  have HL := hide (hl.mono (G := fun g => w.heap.size ≤ g) (fun g (hg : W1.heap.size ≤ g) => by have := HA.out.size; omega))
  have hlt2 := lt_of_block X2
  generalize w1.heap.size = g1 at *
  have x0 : w2.cell? ⟨g1, 0, none⟩ = some (.int .i64 c.check) := by simp [World.cell?, X2, cfgCells]
  have x1 : w2.cell? ⟨g1, 1, none⟩ = some (.int .i64 c.size) := by simp [World.cell?, X2, cfgCells]
  have x2 : w2.cell? ⟨g1, 2, none⟩ = some (.int .i64 c.parts) := by simp [World.cell?, X2, cfgCells]
  have x3 : w2.cell? ⟨g1, 3, none⟩ = some (.int .i64 c.queue) := by simp [World.cell?, X2, cfgCells]
  have x4 : w2.cell? ⟨g1, 4, none⟩ = some (.int .i64 c.first) := by simp [World.cell?, X2, cfgCells]
  have x5 : w2.cell? ⟨g1, 5, none⟩ = some (.int .i64 c.second) := by simp [World.cell?, X2, cfgCells]
  have x6 : w2.cell? ⟨g1, 6, none⟩ = some (.int .i64 c.reply) := by simp [World.cell?, X2, cfgCells]
  have x7 : w2.cell? ⟨g1, 7, none⟩ = some (.int .i64 c.lost) := by simp [World.cell?, X2, cfgCells]
  have x8 : w2.cell? ⟨g1, 8, none⟩ = some (.int .i64 c.tries) := by simp [World.cell?, X2, cfgCells]
  have x9 : w2.cell? ⟨g1, 9, none⟩ = some (.int .i64 c.waits) := by simp [World.cell?, X2, cfgCells]
  clear hl hb2 hb X0 X2 HA
  go_wp2_with fail
  have R0 := RunAt.new HB2.out.size HL.out wild
  have B3 := (((HB2.out.alloc HB2.out.size (.cells sideZ 41)).alloc (by have := HB2.out.size; simp; omega) (.cells sideZ 41)).alloc (by have := HB2.out.size; simp; omega) (.cells (rcells ⟨w2.heap.size + 1 + 1, b, w2.heap.size, w2.heap.size + 1⟩ (newR c wild)) 33))
  have P0 := PI.new HC.out wild
  have T0 := HT.out.keep (fun g hg => B3.block g hg)
  refine (say_run _ _ (newR c wild) 0 _ _ false w.heap.size _ R0.bound (fun g hg k => by have := k.2; omega) P0.book (Or.inl rfl) T0 (by decide) (by decide) (Nat.zero_le _) (Nat.zero_le _) (Nat.zero_le _)).mono ?_
  rintro e w4 ⟨rfl, m, hm, h4, hf4⟩
  have hH : Hs w w4 _ _ := Hs.plus B3 (fun g k => k.1) h4 hf4
  have hP := P0.said (st := 0) (Or.inl rfl) hm
  obtain ⟨_, _, _, _, _, _, _, c17, _⟩ := hH.1.cells
  rw [hP.fits] at c17
  have HK := hide hH
  have HBeg : Hid (Beg wild (saidR (newR c wild) 0 m)) := ⟨c, m, HC.out, hm, rfl⟩
  clear h4 hf4 hH hP P0 T0 B3 R0
  go_wp2
  go_ret
  exact ⟨_, _, rfl, HK.out, HBeg.out⟩

end Go.Proofs.YtlbpjcphhocdkabGreatDoor

namespace Go.Proofs.YtlbpjcphhocdkabGreatDoor
set_option maxRecDepth 1000000
open Go.RowKit Go.Proofs.YtlbpjcphhocdkabGreatDoor.Mod Go.Proofs.YtlbpjcphhocdkabGreatDoor.Pst Go.Proofs.YtlbpjcphhocdkabGreatDoor.Run

def Tp14 (A : RA) (sa : Option Addr) (n cap k : Nat) (a : Act) : Prop := a.defers = [] ∧ a.tmps = List.toArray (.pointer (some ⟨A.rb, 0, none⟩) :: .slice sa n cap :: undef :: undef :: .int .i64 (k : Int) :: a.tmps.getD 5 undef :: a.tmps.getD 6 undef :: a.tmps.getD 7 undef :: .int .i64 0 :: a.tmps.getD 9 undef :: a.tmps.getD 10 undef :: a.tmps.getD 11 undef :: a.tmps.getD 12 undef :: a.tmps.getD 13 undef :: a.tmps.getD 14 undef :: a.tmps.getD 15 undef :: a.tmps.getD 16 undef :: a.tmps.getD 17 undef :: a.tmps.getD 18 undef :: a.tmps.getD 19 undef :: a.tmps.getD 20 undef :: a.tmps.getD 21 undef :: a.tmps.getD 22 undef :: a.tmps.getD 23 undef :: a.tmps.getD 24 undef :: a.tmps.getD 25 undef :: a.tmps.getD 26 undef :: a.tmps.getD 27 undef :: a.tmps.getD 28 undef :: a.tmps.getD 29 undef :: a.tmps.getD 30 undef :: a.tmps.getD 31 undef :: a.tmps.getD 32 undef :: a.tmps.getD 33 undef :: a.tmps.getD 34 undef :: a.tmps.getD 35 undef :: a.tmps.getD 36 undef :: a.tmps.getD 37 undef :: a.tmps.getD 38 undef :: a.tmps.getD 39 undef :: a.tmps.getD 40 undef :: a.tmps.getD 41 undef :: a.tmps.getD 42 undef :: a.tmps.getD 43 undef :: a.tmps.getD 44 undef :: a.tmps.getD 45 undef :: a.tmps.getD 46 undef :: a.tmps.getD 47 undef :: a.tmps.getD 48 undef :: a.tmps.getD 49 undef :: a.tmps.getD 50 undef :: a.tmps.getD 51 undef :: a.tmps.getD 52 undef :: a.tmps.getD 53 undef :: a.tmps.getD 54 undef :: a.tmps.getD 55 undef :: a.tmps.getD 56 undef :: a.tmps.getD 57 undef :: a.tmps.getD 58 undef :: a.tmps.getD 59 undef :: a.tmps.getD 60 undef :: a.tmps.getD 61 undef :: a.tmps.getD 62 undef :: a.tmps.getD 63 undef :: a.tmps.getD 64 undef :: a.tmps.getD 65 undef :: a.tmps.getD 66 undef :: a.tmps.getD 67 undef :: a.tmps.getD 68 undef :: a.tmps.getD 69 undef :: a.tmps.getD 70 undef :: a.tmps.getD 71 undef :: a.tmps.getD 72 undef :: a.tmps.getD 73 undef :: a.tmps.getD 74 undef :: a.tmps.getD 75 undef :: a.tmps.getD 76 undef :: a.tmps.getD 77 undef :: a.tmps.getD 78 undef :: a.tmps.getD 79 undef :: a.tmps.getD 80 undef :: a.tmps.getD 81 undef :: a.tmps.getD 82 undef :: a.tmps.getD 83 undef :: a.tmps.getD 84 undef :: [])
theorem Tp14.use {A : RA} {sa : Option Addr} {n cap k : Nat} {a : Act} (h : Tp14 A sa n cap k a) : ∃ u : Nat → Value, a = { tmps := List.toArray (.pointer (some ⟨A.rb, 0, none⟩) :: .slice sa n cap :: undef :: undef :: .int .i64 (k : Int) :: u 5 :: u 6 :: u 7 :: .int .i64 0 :: u 9 :: u 10 :: u 11 :: u 12 :: u 13 :: u 14 :: u 15 :: u 16 :: u 17 :: u 18 :: u 19 :: u 20 :: u 21 :: u 22 :: u 23 :: u 24 :: u 25 :: u 26 :: u 27 :: u 28 :: u 29 :: u 30 :: u 31 :: u 32 :: u 33 :: u 34 :: u 35 :: u 36 :: u 37 :: u 38 :: u 39 :: u 40 :: u 41 :: u 42 :: u 43 :: u 44 :: u 45 :: u 46 :: u 47 :: u 48 :: u 49 :: u 50 :: u 51 :: u 52 :: u 53 :: u 54 :: u 55 :: u 56 :: u 57 :: u 58 :: u 59 :: u 60 :: u 61 :: u 62 :: u 63 :: u 64 :: u 65 :: u 66 :: u 67 :: u 68 :: u 69 :: u 70 :: u 71 :: u 72 :: u 73 :: u 74 :: u 75 :: u 76 :: u 77 :: u 78 :: u 79 :: u 80 :: u 81 :: u 82 :: u 83 :: u 84 :: []), defers := [] } := ⟨fun i => a.tmps.getD i undef, by obtain ⟨h1, h2⟩ := h; cases a; simp only at h1 h2; subst h1; exact congrArg (fun t => ({ tmps := t, defers := [] } : Act)) h2⟩
def Tp23 (A : RA) (sa : Option Addr) (n cap k : Nat) (a : Act) : Prop := a.defers = [] ∧ a.tmps = List.toArray (.pointer (some ⟨A.rb, 0, none⟩) :: .slice sa n cap :: undef :: undef :: .int .i64 (k : Int) :: a.tmps.getD 5 undef :: a.tmps.getD 6 undef :: a.tmps.getD 7 undef :: a.tmps.getD 8 undef :: a.tmps.getD 9 undef :: a.tmps.getD 10 undef :: a.tmps.getD 11 undef :: a.tmps.getD 12 undef :: a.tmps.getD 13 undef :: a.tmps.getD 14 undef :: a.tmps.getD 15 undef :: a.tmps.getD 16 undef :: a.tmps.getD 17 undef :: a.tmps.getD 18 undef :: a.tmps.getD 19 undef :: a.tmps.getD 20 undef :: a.tmps.getD 21 undef :: a.tmps.getD 22 undef :: a.tmps.getD 23 undef :: a.tmps.getD 24 undef :: a.tmps.getD 25 undef :: a.tmps.getD 26 undef :: a.tmps.getD 27 undef :: a.tmps.getD 28 undef :: a.tmps.getD 29 undef :: a.tmps.getD 30 undef :: a.tmps.getD 31 undef :: a.tmps.getD 32 undef :: a.tmps.getD 33 undef :: a.tmps.getD 34 undef :: a.tmps.getD 35 undef :: a.tmps.getD 36 undef :: a.tmps.getD 37 undef :: a.tmps.getD 38 undef :: a.tmps.getD 39 undef :: a.tmps.getD 40 undef :: a.tmps.getD 41 undef :: a.tmps.getD 42 undef :: a.tmps.getD 43 undef :: a.tmps.getD 44 undef :: a.tmps.getD 45 undef :: a.tmps.getD 46 undef :: a.tmps.getD 47 undef :: a.tmps.getD 48 undef :: a.tmps.getD 49 undef :: a.tmps.getD 50 undef :: a.tmps.getD 51 undef :: a.tmps.getD 52 undef :: a.tmps.getD 53 undef :: a.tmps.getD 54 undef :: a.tmps.getD 55 undef :: a.tmps.getD 56 undef :: a.tmps.getD 57 undef :: a.tmps.getD 58 undef :: a.tmps.getD 59 undef :: a.tmps.getD 60 undef :: a.tmps.getD 61 undef :: a.tmps.getD 62 undef :: a.tmps.getD 63 undef :: a.tmps.getD 64 undef :: a.tmps.getD 65 undef :: a.tmps.getD 66 undef :: a.tmps.getD 67 undef :: a.tmps.getD 68 undef :: a.tmps.getD 69 undef :: a.tmps.getD 70 undef :: a.tmps.getD 71 undef :: a.tmps.getD 72 undef :: a.tmps.getD 73 undef :: a.tmps.getD 74 undef :: a.tmps.getD 75 undef :: a.tmps.getD 76 undef :: a.tmps.getD 77 undef :: a.tmps.getD 78 undef :: a.tmps.getD 79 undef :: a.tmps.getD 80 undef :: a.tmps.getD 81 undef :: a.tmps.getD 82 undef :: a.tmps.getD 83 undef :: a.tmps.getD 84 undef :: [])
theorem Tp23.use {A : RA} {sa : Option Addr} {n cap k : Nat} {a : Act} (h : Tp23 A sa n cap k a) : ∃ u : Nat → Value, a = { tmps := List.toArray (.pointer (some ⟨A.rb, 0, none⟩) :: .slice sa n cap :: undef :: undef :: .int .i64 (k : Int) :: u 5 :: u 6 :: u 7 :: u 8 :: u 9 :: u 10 :: u 11 :: u 12 :: u 13 :: u 14 :: u 15 :: u 16 :: u 17 :: u 18 :: u 19 :: u 20 :: u 21 :: u 22 :: u 23 :: u 24 :: u 25 :: u 26 :: u 27 :: u 28 :: u 29 :: u 30 :: u 31 :: u 32 :: u 33 :: u 34 :: u 35 :: u 36 :: u 37 :: u 38 :: u 39 :: u 40 :: u 41 :: u 42 :: u 43 :: u 44 :: u 45 :: u 46 :: u 47 :: u 48 :: u 49 :: u 50 :: u 51 :: u 52 :: u 53 :: u 54 :: u 55 :: u 56 :: u 57 :: u 58 :: u 59 :: u 60 :: u 61 :: u 62 :: u 63 :: u 64 :: u 65 :: u 66 :: u 67 :: u 68 :: u 69 :: u 70 :: u 71 :: u 72 :: u 73 :: u 74 :: u 75 :: u 76 :: u 77 :: u 78 :: u 79 :: u 80 :: u 81 :: u 82 :: u 83 :: u 84 :: []), defers := [] } := ⟨fun i => a.tmps.getD i undef, by obtain ⟨h1, h2⟩ := h; cases a; simp only at h1 h2; subst h1; exact congrArg (fun t => ({ tmps := t, defers := [] } : Act)) h2⟩

theorem tick_h (w0 W : World) (A : RA) (r : R) (h : Hs w0 W A r) (hb : Book r) (hk : TickOk r) (la : r.a.want.length ≤ 10000000000000) (lb : r.b.want.length ≤ 10000000000000) :
    Calls Tryz.prog 12 #[.pointer (some ⟨A.rb, 0, none⟩)] W fun e w' => ∃ v, e = .returned v ∧ OwnE w' W.heap.size v (events r.x) ∧ Hs w0 w' A (tkR r) ∧ RunAt w' (fun g => w0.heap.size ≤ g ∧ ¬ v.ownBlock = some g) A (tkR r) := by
  refine (tick_run _ A r W h.1 hb.good (by rw [hb.a.j]; omega) (by rw [hb.b.j]; omega) hk.evs hk.len (hk.inc noEv) hk.fit (by omega) (by omega)).mono ?_
  rintro e w' ⟨v, rfl, hv, hr, hf⟩
  have hr' : RunAt w' (fun g => w0.heap.size ≤ g ∧ ¬ v.ownBlock = some g) A (tkR r) := hr.mono fun g k => ⟨k.1.elim id (fun y => by have := h.2.size; omega), k.2⟩
  exact ⟨v, rfl, hv, ⟨hr'.mono fun g k => k.1, hf.toBelow h.2 fun g k => k⟩, hr'⟩

def stepCells (o : Stp) : List Value := [.int .i64 o.kind, .int .i64 o.st, .int .i64 o.a, .int .i64 o.b, .int .i64 o.c, .string o.s, .string o.t, .bool o.f]
/-- The script, in memory that is older than the call. -/
def ScrAt (w : World) (a : Option Addr) (l : List Stp) : Prop :=
  l = [] ∨ ∃ b off, a = some ⟨b, off, none⟩ ∧ b < w.heap.size ∧ ∀ i o, l[i]? = some o → ∀ j v, (stepCells o)[j]? = some v → w.cell? ⟨b, off + i * 8 + j, none⟩ = some v
structure StpOk (o : Stp) : Prop where
  st : I64 o.st
  a : I64 o.a
  b : I64 o.b
  s : o.s.size ≤ 140737488351300
  t : o.t.size ≤ 140737488351300
/-- Where it is played. -/
def PlR (w0 : World) (A : RA) (wild : Bool) (n : Nat) (W : World) : Prop := ∃ r, Hs w0 W A r ∧ PI wild n r
def PlB (w0 : World) (A : RA) (wild : Bool) (n : Nat) (T : Act → Prop) (a : Act) (W : World) : Prop := T a ∧ PlR w0 A wild n W

set_option maxHeartbeats 8000000 in
theorem play_run (w0 : World) (A : RA) (wild : Bool) (sa : Option Addr) (cap : Nat) (l : List Stp) (r : R) (W : World) (h : Hs w0 W A r) (hp : PI wild 1 r) (hs : ScrAt w0 sa l) (ho : ∀ o ∈ l, StpOk o) (hl : l.length ≤ 2000000000000) (ht : Tab w0 w0.heap.size) :
    Calls Tryz.prog 20 #[.pointer (some ⟨A.rb, 0, none⟩), .slice sa l.length cap] W fun e w' => e = .returned (.tuple #[]) ∧ PlR w0 A wild (l.length + 1) w' := by
  have HP : Hid (PlR w0 A wild 1 W) := ⟨r, h, hp⟩
  have HO := hide ho
  have HT := hide ht
  have HSc := hide hs
  clear h hp hs ho ht
  go_enter Tryz.func20, Tryz.ntmps20
  go_wp2
  go_loopw [4] (fun i wr => ∃ k : Nat, i = .int .i64 k ∧ k ≤ l.length ∧ Hid (PlR w0 A wild (k + 1) wr)) (fun i _ => l.length - (intOf i).toNat)
  case atStart => exact ⟨0, rfl, by omega, HP⟩
  case round =>
    obtain ⟨k, rfl, hk, HR⟩ := hrel
    by_cases hlt : k < l.length
    · have hne : l ≠ [] := fun e => by rw [e] at hlt; simp at hlt
      rcases HSc.out with e | ⟨b, off, rfl, hbl, hcell⟩
      · exact absurd e hne
      obtain ⟨r, hH, hP⟩ := HR.out
      have hbel := hH.2
      have hbw : b < wr.heap.size := by have := hbel.size; omega
      obtain ⟨o, hoo⟩ : ∃ o, l[k]? = some o := ⟨_, List.getElem?_eq_getElem hlt⟩
      have q : ∀ j v, (stepCells o)[j]? = some v → wr.cell? ⟨b, off + k * 8 + j, none⟩ = some v := fun j v e => (hbel.cell (p := ⟨b, off + k * 8 + j, none⟩) hbl).trans (hcell k o hoo j v e)
      have q0 := q 0 _ rfl
      have q1 := q 1 _ rfl
      have q2 := q 2 _ rfl
      have q3 := q 3 _ rfl
      have q4 := q 4 _ rfl
      have q5 := q 5 _ rfl
      have q6 := q 6 _ rfl
      have q7 := q 7 _ rfl
      simp only [Nat.add_zero] at q0
      have hok := HO.out o (List.mem_of_getElem? hoo)
      have HOk := hide hok
      have HH := hide hH
      have HPI := hide hP
      have hlt' : (k : Int) < (l.length : Int) := by omega
      have hrb := hH.1.lt.1
      clear hok hH hP hbel hcell hne q hoo HR HP
      go_wp2_with fail
      refine (pick_nat o.st 2 _ HOk.out.st (by omega) (by omega)).mono ?_
      rintro e w2 ⟨st, rfl, hst, hw⟩
      have X2 : StepAt w2 wr.heap.size o := by rw [hw]; exact StepAt.new wr o
      have h2 : Hs w0 w2 A r := by rw [hw]; exact HH.out.below ((Below.refl _ wr).alloc (Nat.le_refl _) _)
      have hb2 : Below wr.heap.size wr w2 := by rw [hw]; exact (Below.refl _ wr).alloc (Nat.le_refl _) _
      have hs2 : w2.heap.size = wr.heap.size + 1 := by rw [hw]; show (wr.heap.push _).size = _; exact Array.size_push _
      have hgb : w0.heap.size ≤ wr.heap.size := HH.out.2.size
      have hlt2 := lt_of_block X2
      obtain ⟨o0, o1, o2, o3, o4, o5, o6, o7⟩ := X2.cell
      obtain ⟨c0, _, _, _, c14, _⟩ := h2.1.cells
      rw [HPI.out.w] at c14
      have HnS : Hid (¬ (w0.heap.size ≤ wr.heap.size ∧ wr.heap.size < wr.heap.size)) := fun k => by omega
      have H2 := hide h2
      have HR2 : Hid (RunAt w2 (fun g => w0.heap.size ≤ g ∧ g < wr.heap.size) A r) := HH.out.bound.below hb2
      have HS2 : Hid (w2.heap.size = wr.heap.size + 1) := hs2
      have HX2 := hide X2
      have HTb : Hid (Tab w2 w0.heap.size) := HT.out.keep fun g hg => h2.2.block g hg
      have hst' : (st : Int) = 0 ∨ (st : Int) = 1 := by omega
      have hrb2 := h2.1.lt.1
      have hrbg : A.rb ≠ wr.heap.size := by omega
      have la := HPI.out.la
      have lb := HPI.out.lb
      have ja := HPI.out.book.a.j
      have jb := HPI.out.book.b.j
      have HJ : Hid (r.x.s0.joined ≤ 100000000000000 ∧ r.x.s1.joined ≤ 100000000000000 ∧ (sideOf r st).want.length ≤ 3000000000000) := ⟨by omega, by omega, by unfold sideOf; split <;> omega⟩
      clear hw h2 hb2 hs2 X2 q0 q1 q2 q3 q4 q5 q6 q7 la lb ja jb hrb HH
      generalize wr.heap.size = g at *
      by_cases k1 : o.kind = 1
      · have d1 : (o.kind == 1) = true := by simp [k1]
        clear k1
        go_wp2_with fail
        refine (say_run _ A r st o.s o.t o.f w0.heap.size _ H2.out.bound (fun x hx k => by have := k.2; omega) HPI.out.book hst' HTb.out HOk.out.s HOk.out.t HJ.out.2.2 HJ.out.1 HJ.out.2.1).mono ?_
        rintro e w3 ⟨rfl, m, hm, h3, hf3⟩
        have HK : Hid (PlR w0 A wild (k + 1 + 1) w3) := ⟨_, Hs.plus H2.out.2 (fun x hx => hx.1) h3 hf3, HPI.out.said hst' hm⟩
        clear hm h3 hf3
        go_wp2
        go_roundw
        case rel => exact ⟨k + 1, by go_num, by omega, HK⟩
        case measure => simp [intOf]; omega
      have d1 : (o.kind == 1) = false := by simp [k1]
      by_cases k2 : o.kind = 2
      · have d2 : (o.kind == 2) = true := by simp [k2]
        clear k1 k2
        go_wp2_with fail
        refine (pick_nat o.a 16 _ HOk.out.a (by omega) (by omega)).mono ?_
        rintro e w3 ⟨n, rfl, hn, hw3⟩
        obtain rfl := hw3.symm
        clear hw3
        have HPl : Hid (PlR w0 A wild (k + 1) w2) := ⟨r, H2.out, HPI.out⟩
        go_wp2
        go_loopw [7] (fun i wi => ∃ n' : Int, i = .int .i64 n' ∧ -1 ≤ n' ∧ n' ≤ 15 ∧ Hid (PlR w0 A wild (k + 1) wi)) (fun i _ => (intOf i + 1).toNat)
        case atStart => exact ⟨n, rfl, by omega, by omega, HPl⟩
        case round =>
          obtain ⟨n', rfl, h1', h2', HR'⟩ := hrel
          by_cases hp0 : 0 ≤ n'
          · obtain ⟨r', hH', hP'⟩ := HR'.out
            have la := hP'.la
            have lb := hP'.lb
            have HH' := hide hH'
            have HP' := hide hP'
            clear hH' hP'
            go_wp2_with fail
            refine (tick_h w0 _ A r' HH'.out HP'.out.book HP'.out.tick.1 (by omega) (by omega)).mono ?_
            rintro e w4 ⟨v, rfl, hv, h4, _⟩
            have HK : Hid (PlR w0 A wild (k + 1) w4) := ⟨_, h4, HP'.out.tick.2⟩
            clear hv h4
            go_wp2
            go_roundw
            case rel => exact ⟨n' - 1, by go_num, by omega, by omega, HK⟩
            case measure => simp [intOf]; omega
          · obtain ⟨r', hH', hP'⟩ := HR'.out
            have HK := hide (show PlR w0 A wild (k + 1 + 1) _ from ⟨r', hH', hP'.more⟩)
            clear hH' hP'
            go_wp2
            go_roundw
            case rel => exact ⟨k + 1, by go_num, by omega, HK⟩
            case measure => simp [intOf]; omega
      have d2 : (o.kind == 2) = false := by simp [k2]
      by_cases k3 : o.kind = 3
      · have d3 : (o.kind == 3) = true := by simp [k3]
        have HBE : Hid (busyE (st : Int) = 0) := by unfold Hid busyE; rw [if_pos hst']
        clear k1 k2 k3
        go_wp2_with fail
        refine region_only (PlB w0 A wild (k + 1 + 1) (Tp14 A (some ⟨b, off, none⟩) l.length cap k)) ?_ ?_
        · go_region_held3 (fun W => W.cell? ⟨A.rb, 0, none⟩ = some (.pointer (some ⟨A.xb, 0, none⟩)) ∧ W.cell? ⟨g, 7, none⟩ = some (.bool o.f)) ((first | exact ⟨c0, o7⟩ | exact ⟨h4.cells.1, (World.cell?_of_block (hf4.block _ hlt2 HnS.out)).trans o7⟩))
            ((go_at_call 34; refine (busied_run _ A r st o.f _ (HR2.out.below ?_)).mono ?_; (repeat' (with_reducible (first | apply Below.drew | apply below_drewN | exact Below.refl _ _))); rintro e w4 ⟨rfl, h4, hf4⟩; rw [HBE.out]))
          all_goals exact ⟨⟨rfl, rfl⟩, _, Hs.plus (W := w2) H2.out.2 (fun x hx => hx.1) h4 (Fr.mk hf4.os hf4.tape hf4.output hf4.size hf4.block), (HPI.out.busied st o.f).more⟩
        rintro a4 W4 ⟨htk, hP4⟩
        obtain ⟨u, rfl⟩ := htk.use
        have HK := hide hP4
        clear htk hP4
        go_wp2
        go_roundw
        case rel => exact ⟨k + 1, by go_num, by omega, HK⟩
        case measure => simp [intOf]; omega
      have d3 : (o.kind == 3) = false := by simp [k3]
      by_cases k4 : o.kind = 4 ∨ o.kind = 5 ∨ o.kind = 6
      · rcases k4 with kk | kk | kk
        · have d4 : (o.kind == 4) = true := by simp [kk]
          clear k1 k2 k3 kk
          go_wp2_with fail
          refine (fault_run _ A r o _ HR2.out (fun z => by have := HS2.out; have := z.2; omega) HPI.out.book.good HOk.out.a.1 HOk.out.a.2 HOk.out.b.1 HOk.out.b.2).mono ?_
          rintro e w3 ⟨rfl, h3, hf3⟩
          have HK : Hid (PlR w0 A wild (k + 1 + 1) w3) := ⟨_, Hs.plus H2.out.2 (fun x hx => hx.1) h3 hf3, (HPI.out.faulted o.kind o.a o.b).more⟩
          clear h3 hf3
          go_wp2
          go_roundw
          case rel => exact ⟨k + 1, by go_num, by omega, HK⟩
          case measure => simp [intOf]; omega
        · have d4 : (o.kind == 4) = false := by simp [kk]
          have d5 : (o.kind == 5) = true := by simp [kk]
          clear k1 k2 k3 kk
          go_wp2_with fail
          refine (fault_run _ A r o _ HR2.out (fun z => by have := HS2.out; have := z.2; omega) HPI.out.book.good HOk.out.a.1 HOk.out.a.2 HOk.out.b.1 HOk.out.b.2).mono ?_
          rintro e w3 ⟨rfl, h3, hf3⟩
          have HK : Hid (PlR w0 A wild (k + 1 + 1) w3) := ⟨_, Hs.plus H2.out.2 (fun x hx => hx.1) h3 hf3, (HPI.out.faulted o.kind o.a o.b).more⟩
          clear h3 hf3
          go_wp2
          go_roundw
          case rel => exact ⟨k + 1, by go_num, by omega, HK⟩
          case measure => simp [intOf]; omega
        · have d4 : (o.kind == 4) = false := by simp [kk]
          have d5 : (o.kind == 5) = false := by simp [kk]
          have d6 : (o.kind == 6) = true := by simp [kk]
          clear k1 k2 k3 kk
          go_wp2_with fail
          refine (fault_run _ A r o _ HR2.out (fun z => by have := HS2.out; have := z.2; omega) HPI.out.book.good HOk.out.a.1 HOk.out.a.2 HOk.out.b.1 HOk.out.b.2).mono ?_
          rintro e w3 ⟨rfl, h3, hf3⟩
          have HK : Hid (PlR w0 A wild (k + 1 + 1) w3) := ⟨_, Hs.plus H2.out.2 (fun x hx => hx.1) h3 hf3, (HPI.out.faulted o.kind o.a o.b).more⟩
          clear h3 hf3
          go_wp2
          go_roundw
          case rel => exact ⟨k + 1, by go_num, by omega, HK⟩
          case measure => simp [intOf]; omega
      have d4 : (o.kind == 4) = false := by simp; omega
      have d5 : (o.kind == 5) = false := by simp; omega
      have d6 : (o.kind == 6) = false := by simp; omega
      by_cases k7 : o.kind = 7
      · have d7 : (o.kind == 7) = true := by simp [k7]
        clear k1 k2 k3 k4 k7
        cases wild with
        | false =>
          have HK : Hid (PlR w0 A false (k + 1 + 1) w2) := ⟨r, H2.out, HPI.out.more⟩
          go_wp2
          go_roundw
          case rel => exact ⟨k + 1, by go_num, by omega, HK⟩
          case measure => simp [intOf]; omega
        | true =>
          go_wp2_with fail
          refine region_only (PlB w0 A true (k + 1 + 1) (Tp23 A (some ⟨b, off, none⟩) l.length cap k)) ?_ ?_
          · go_region_held3 (fun W => W.cell? ⟨A.rb, 0, none⟩ = some (.pointer (some ⟨A.xb, 0, none⟩)) ∧ W.cell? ⟨g, 2, none⟩ = some (.int .i64 o.a) ∧ W.cell? ⟨g, 3, none⟩ = some (.int .i64 o.b) ∧ W.cell? ⟨g, 4, none⟩ = some (.int .i64 o.c)) ((first | exact ⟨c0, o2, o3, o4⟩ | exact ⟨h4.cells.1, (World.cell?_of_block (hf4.block _ hlt2 HnS.out)).trans o2, (World.cell?_of_block (hf4.block _ hlt2 HnS.out)).trans o3, (World.cell?_of_block (hf4.block _ hlt2 HnS.out)).trans o4⟩))
              ((go_at_call 36; refine (faulted_run _ A r o.a o.b o.c _ (HR2.out.below ?_) HPI.out.book.good).mono ?_; (repeat' (with_reducible (first | apply Below.drew | apply below_drewN | exact Below.refl _ _))); rintro e w4 ⟨rfl, h4, hf4⟩))
            all_goals exact ⟨⟨rfl, rfl⟩, _, Hs.plus (W := w2) H2.out.2 (fun x hx => hx.1) h4 (Fr.mk hf4.os hf4.tape hf4.output hf4.size hf4.block), (HPI.out.wilded o.a o.b o.c).more⟩
          rintro a4 W4 ⟨htk, hP4⟩
          obtain ⟨u, rfl⟩ := htk.use
          have HK := hide hP4
          clear htk hP4
          go_wp2
          go_roundw
          case rel => exact ⟨k + 1, by go_num, by omega, HK⟩
          case measure => simp [intOf]; omega
      have d7 : (o.kind == 7) = false := by simp [k7]
      have HK : Hid (PlR w0 A wild (k + 1 + 1) w2) := ⟨r, H2.out, HPI.out.more⟩
      clear k1 k2 k3 k4 k7
      go_wp2
      go_roundw
      case rel => exact ⟨k + 1, by go_num, by omega, HK⟩
      case measure => simp [intOf]; omega
    · have hkl : k = l.length := by omega
      have hlt' : ¬ (k : Int) < (l.length : Int) := by omega
      have HK : Hid (PlR w0 A wild (l.length + 1) wr) := by rw [← hkl]; exact HR
      clear hkl hlt HR
      go_wp2
      go_end0
      exact ⟨rfl, HK.out⟩

end Go.Proofs.YtlbpjcphhocdkabGreatDoor
