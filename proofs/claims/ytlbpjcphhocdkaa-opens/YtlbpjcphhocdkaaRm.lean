/- The document's line in memory: one station of it, and what a call leaves alone. -/
import Derived.Test.YtlbpjcphhocdkaaLn0
import Derived.Test.YtlbpjcphhocdkaaRShort
namespace Go.Proofs.Ytlbpjcphhocdkaa
open Go.RowKit Go.Proofs.Ytlbpjcphhocdkaa.Mod Go.Proofs.Ytlbpjcphhocdkaa.Pst

/-- A station as the document's program keeps it. -/
structure RS where
  mode : Nat
  busy : Bool
  q : List Msg
  joined : Nat
  began : Nat
  wait : Nat
  ended : Int
  tries : Nat
  off : Nat
  free : Bool
  block : Nat
  count : Nat
  got : List Bk

/-- A list of blocks in memory: the blocks of memory that it and its texts lie in are of F. -/
def GAt (w : World) (F : Nat → Prop) (v : Value) (l : List Bk) : Prop :=
  ∃ vs : List (Value × List ByteArray), vs.length = l.length ∧ w.ownsRow 0 30 4 v l.length ((vs.zip l).map fun x => [.string ⟨x.2.head.toArray⟩, x.1.1, .bool x.2.clear, .bool x.2.last]).flatten ∧ (∀ g, v.ownBlock = some g → F g) ∧
    ∀ k (hk : k < l.length), ∃ x, vs[k]? = some x ∧ w.ownsRow 0 9 1 x.1 x.2.length (x.2.map Value.string) ∧ (∀ g, x.1.ownBlock = some g → F g) ∧ datas x.2 = l[k].parts
theorem row_keep {w w' : World} {e : TypeId} {z : Nat} {v : Value} {n : Nat} {xs : List Value} (h : w.ownsRow 0 e z v n xs) (hb : ∀ g, v.ownBlock = some g → g < w.heap.size → w'.heap[g]? = w.heap[g]?) : w'.ownsRow 0 e z v n xs := by
  obtain ⟨h1, h2⟩ := h
  refine ⟨h1, ?_⟩
  rcases h2 with h2 | ⟨g, cap, cur, hv, hB, hh, r⟩
  · exact Or.inl h2
  · exact Or.inr ⟨g, cap, cur, hv, hB, (hb g (by rw [hv]; rfl) (lt_of_block hh)).trans hh, r⟩
theorem GAt.keep {w w' : World} {F : Nat → Prop} {v : Value} {l : List Bk} (h : GAt w F v l) (hb : ∀ g, F g → g < w.heap.size → w'.heap[g]? = w.heap[g]?) : GAt w' F v l := by
  obtain ⟨vs, h0, h1, h2, h3⟩ := h
  refine ⟨vs, h0, row_keep h1 (fun g hg hl => hb g (h2 g hg) hl), h2, fun k hk => ?_⟩
  obtain ⟨x, hx, hr, hf, hd⟩ := h3 k hk
  exact ⟨x, hx, row_keep hr (fun g hg hl => hb g (hf g hg) hl), hf, hd⟩
theorem GAt.mono {w : World} {F G : Nat → Prop} {v : Value} {l : List Bk} (h : GAt w F v l) (hG : ∀ g, F g → G g) : GAt w G v l := by
  obtain ⟨vs, h0, h1, h2, h3⟩ := h
  refine ⟨vs, h0, h1, fun g hg => hG g (h2 g hg), fun k hk => ?_⟩
  obtain ⟨x, hx, hr, hf, hd⟩ := h3 k hk
  exact ⟨x, hx, hr, fun g hg => hG g (hf g hg), hd⟩
theorem GAt.nil (w : World) (F : Nat → Prop) : GAt w F (.slice none 0 0) [] := ⟨[], rfl, World.ownsRow_nil w 0 _ _, fun g hg => (by cases hg), fun k hk => absurd hk (Nat.not_lt_zero k)⟩

/-- The line's block yb, its list of stations sl, what is on the line ob, the station's own block sb. -/
structure RAd where
  yb : Nat
  sl : Nat
  ob : Nat
  sb : Nat
  i : Nat
structure RAd.Ok (A : RAd) (F : Nat → Prop) : Prop where
  i : A.i < 2
  h1 : A.yb ≠ A.sl
  h2 : A.yb ≠ A.ob
  h3 : A.yb ≠ A.sb
  h4 : A.sl ≠ A.ob
  h5 : A.sl ≠ A.sb
  h6 : A.ob ≠ A.sb
  f1 : ¬ F A.yb
  f2 : ¬ F A.sl
  f3 : ¬ F A.ob
  f4 : ¬ F A.sb
/-- The line as one station sees it. -/
structure RAt (w : World) (F : Nat → Prop) (A : RAd) (c : Cfg) (now : Nat) (s : RS) (on : List UInt8) : Prop where
  cfg : CfgL w A.yb c
  now : w.cell? ⟨A.yb, 10, none⟩ = some (.int .i64 now)
  lst : w.cell? ⟨A.yb, 11, none⟩ = some (.slice (some ⟨A.sl, 0, none⟩) 2 2)
  onl : w.cell? ⟨A.yb, 12, none⟩ = some (.slice (some ⟨A.ob, 0, none⟩) 2 2)
  ptr : w.cell? ⟨A.sl, A.i, none⟩ = some (.pointer (some ⟨A.sb, 0, none⟩))
  on : w.cell? ⟨A.ob, A.i, none⟩ = some (.string ⟨on.toArray⟩)
  mode : w.cell? ⟨A.sb, 0, none⟩ = some (.int .i64 s.mode)
  busy : w.cell? ⟨A.sb, 1, none⟩ = some (.bool s.busy)
  que : ∃ v, w.cell? ⟨A.sb, 2, none⟩ = some v ∧ QAt w F v s.q
  joined : w.cell? ⟨A.sb, 3, none⟩ = some (.int .i64 s.joined)
  began : w.cell? ⟨A.sb, 4, none⟩ = some (.int .i64 s.began)
  wait : w.cell? ⟨A.sb, 5, none⟩ = some (.int .i64 s.wait)
  ended : w.cell? ⟨A.sb, 6, none⟩ = some (.int .i64 s.ended)
  tries : w.cell? ⟨A.sb, 7, none⟩ = some (.int .i64 s.tries)
  off : w.cell? ⟨A.sb, 8, none⟩ = some (.int .i64 s.off)
  free : w.cell? ⟨A.sb, 9, none⟩ = some (.bool s.free)
  block : w.cell? ⟨A.sb, 10, none⟩ = some (.int .i64 s.block)
  count : w.cell? ⟨A.sb, 11, none⟩ = some (.int .i64 s.count)
  got : ∃ v, w.cell? ⟨A.sb, 12, none⟩ = some v ∧ GAt w F v s.got
  zob : ∀ j, w.frozen? ⟨A.ob, j, none⟩ = false
  zsb : ∀ j, w.frozen? ⟨A.sb, j, none⟩ = false
  ok : A.Ok F

/-- All is as it was but for the station's block and its cell on the line; new blocks may have come. -/
structure RB (A : RAd) (w w' : World) : Prop where
  os : w'.os = w.os
  tape : w'.tape = w.tape
  output : w'.output = w.output
  size : w.heap.size ≤ w'.heap.size
  block : ∀ k, k < w.heap.size → k ≠ A.sb → k ≠ A.ob → w'.heap[k]? = w.heap[k]?
  cell : ∀ j, j ≠ A.i → w'.cell? ⟨A.ob, j, none⟩ = w.cell? ⟨A.ob, j, none⟩
  zob : ∀ j, w'.frozen? ⟨A.ob, j, none⟩ = w.frozen? ⟨A.ob, j, none⟩
  zsb : ∀ j, w'.frozen? ⟨A.sb, j, none⟩ = w.frozen? ⟨A.sb, j, none⟩

section
variable {A : RAd} {u w w' : World} {F : Nat → Prop} {c : Cfg} {now : Nat} {s : RS} {on : List UInt8}
theorem RB.refl (A : RAd) (w : World) : RB A w w := ⟨rfl, rfl, rfl, Nat.le_refl _, fun _ _ _ _ => rfl, fun _ _ => rfl, fun _ => rfl, fun _ => rfl⟩
theorem RB.trans (h : RB A u w) (k : RB A w w') : RB A u w' := ⟨k.os.trans h.os, k.tape.trans h.tape, k.output.trans h.output, Nat.le_trans h.size k.size, fun i hi h1 h2 => (k.block i (Nat.lt_of_lt_of_le hi h.size) h1 h2).trans (h.block i hi h1 h2), fun j hj => (k.cell j hj).trans (h.cell j hj), fun j => (k.zob j).trans (h.zob j), fun j => (k.zsb j).trans (h.zsb j)⟩
theorem RB.setS (h : RB A u w) (hne : A.ob ≠ A.sb) (k : Nat) (v : Value) : RB A u (w.setCell ⟨A.sb, k, none⟩ v) :=
  h.trans ⟨rfl, rfl, rfl, by simp, fun i _ h1 _ => Below.heap_setCell _ _ _ _ h1, fun j _ => World.cell?_setCell_other _ _ _ _ (fun e => hne (congrArg Addr.block e).symm), fun j => by simp, fun j => by simp⟩
theorem RB.setO (h : RB A u w) (v : Value) : RB A u (w.setCell ⟨A.ob, A.i, none⟩ v) :=
  h.trans ⟨rfl, rfl, rfl, by simp, fun i _ _ h2 => Below.heap_setCell _ _ _ _ h2, fun j hj => World.cell?_setCell_other _ _ _ _ (fun e => hj (congrArg Addr.off e).symm), fun j => by simp, fun j => by simp⟩
theorem RB.below (h : RB A u w) (h1 : A.ob < w.heap.size) (h2 : A.sb < w.heap.size) (k : Below w.heap.size w w') : RB A u w' :=
  h.trans ⟨k.os, k.tape, k.output, k.size, fun i hi _ _ => k.block i hi, fun _ _ => k.cell h1, fun _ => k.frozen h1, fun _ => k.frozen h2⟩
theorem RB.drew (h : RB A u w) : RB A u w.drew := ⟨h.os, h.tape, h.output, h.size, h.block, h.cell, h.zob, h.zsb⟩
theorem RAt.lob (h : RAt w F A c now s on) : A.ob < w.heap.size := World.block_lt_of_cell? w _ h.on
theorem RAt.lsb (h : RAt w F A c now s on) : A.sb < w.heap.size := World.block_lt_of_cell? w _ h.mode
theorem RAt.lsl (h : RAt w F A c now s on) : A.sl < w.heap.size := World.block_lt_of_cell? w _ h.ptr
theorem RAt.lyb (h : RAt w F A c now s on) : A.yb < w.heap.size := World.block_lt_of_cell? w _ h.now
/-- Where nothing of it has changed. -/
theorem RAt.below (h : RAt w F A c now s on) (k : Below w.heap.size w w') : RAt w' F A c now s on := by
  obtain ⟨v, hv, hq⟩ := h.que
  obtain ⟨g, hg, hG⟩ := h.got
  have e : ∀ (p : Addr) (x : Value), w.cell? p = some x → w'.cell? p = some x := fun p x hp => (k.cell (World.block_lt_of_cell? w p hp)).trans hp
  exact ⟨h.cfg.below k h.lyb, e _ _ h.now, e _ _ h.lst, e _ _ h.onl, e _ _ h.ptr, e _ _ h.on, e _ _ h.mode, e _ _ h.busy, ⟨v, e _ _ hv, hq.keep fun g _ hg => k.block g hg⟩, e _ _ h.joined, e _ _ h.began, e _ _ h.wait, e _ _ h.ended, e _ _ h.tries, e _ _ h.off, e _ _ h.free, e _ _ h.block, e _ _ h.count, ⟨g, e _ _ hg, hG.keep fun g _ hg => k.block g hg⟩, fun j => (k.frozen h.lob).trans (h.zob j), fun j => (k.frozen h.lsb).trans (h.zsb j), h.ok⟩
theorem RAt.drewN (h : RAt w F A c now s on) (n : Nat) : RAt (w.drewN n) F A c now s on := h.below (below_drewN (Below.refl _ _) n)
theorem RAt.drew (h : RAt w F A c now s on) : RAt w.drew F A c now s on := h.below (Below.drew (Below.refl _ _))

/-- A cell of another block is as it was. -/
theorem cell_ne {g b k j : Nat} {v : Value} (h : g ≠ b) : (w.setCell ⟨g, k, none⟩ v).cell? ⟨b, j, none⟩ = w.cell? ⟨b, j, none⟩ := World.cell?_setCell_other _ _ _ _ (fun e => h (congrArg Addr.block e))
theorem cell_nk {g k j : Nat} {v : Value} (h : k ≠ j) : (w.setCell ⟨g, k, none⟩ v).cell? ⟨g, j, none⟩ = w.cell? ⟨g, j, none⟩ := World.cell?_setCell_other _ _ _ _ (fun e => h (congrArg Addr.off e))
theorem QAt.setX {g k : Nat} {v q : Value} {l : List Msg} (h : QAt w F q l) (hn : ¬ F g) : QAt (w.setCell ⟨g, k, none⟩ v) F q l := h.keep fun x hx _ => Below.heap_setCell _ _ _ _ (fun e => hn (by subst e; exact hx))
theorem GAt.setX {g k : Nat} {v q : Value} {l : List Bk} (h : GAt w F q l) (hn : ¬ F g) : GAt (w.setCell ⟨g, k, none⟩ v) F q l := h.keep fun x hx _ => Below.heap_setCell _ _ _ _ (fun e => hn (by subst e; exact hx))
theorem CfgL.setX {g k b : Nat} {v : Value} (h : CfgL w b c) (hn : g ≠ b) : CfgL (w.setCell ⟨g, k, none⟩ v) b c := h.keep fun _ _ => cell_ne hn
theorem RAt.mode' (h : RAt w F A c now s on) (x : Nat) : RAt (w.setCell ⟨A.sb, 0, none⟩ (.int .i64 x)) F A c now { s with mode := x } on := by
  obtain ⟨_, hv, hq⟩ := h.que
  obtain ⟨_, hg, hG⟩ := h.got
  exact ⟨h.cfg.setX (Ne.symm h.ok.h3), (cell_ne (Ne.symm h.ok.h3)).trans h.now, (cell_ne (Ne.symm h.ok.h3)).trans h.lst, (cell_ne (Ne.symm h.ok.h3)).trans h.onl, (cell_ne (Ne.symm h.ok.h5)).trans h.ptr, (cell_ne (Ne.symm h.ok.h6)).trans h.on, World.cell?_setCell_same _ _ _ h.mode, (cell_nk (by omega)).trans h.busy, ⟨_, (cell_nk (by omega)).trans hv, hq.setX h.ok.f4⟩, (cell_nk (by omega)).trans h.joined, (cell_nk (by omega)).trans h.began, (cell_nk (by omega)).trans h.wait, (cell_nk (by omega)).trans h.ended, (cell_nk (by omega)).trans h.tries, (cell_nk (by omega)).trans h.off, (cell_nk (by omega)).trans h.free, (cell_nk (by omega)).trans h.block, (cell_nk (by omega)).trans h.count, ⟨_, (cell_nk (by omega)).trans hg, hG.setX h.ok.f4⟩, fun j => by rw [World.frozen?_setCell]; exact h.zob j, fun j => by rw [World.frozen?_setCell]; exact h.zsb j, h.ok⟩
theorem RAt.busy' (h : RAt w F A c now s on) (x : Bool) : RAt (w.setCell ⟨A.sb, 1, none⟩ (.bool x)) F A c now { s with busy := x } on := by
  obtain ⟨_, hv, hq⟩ := h.que
  obtain ⟨_, hg, hG⟩ := h.got
  exact ⟨h.cfg.setX (Ne.symm h.ok.h3), (cell_ne (Ne.symm h.ok.h3)).trans h.now, (cell_ne (Ne.symm h.ok.h3)).trans h.lst, (cell_ne (Ne.symm h.ok.h3)).trans h.onl, (cell_ne (Ne.symm h.ok.h5)).trans h.ptr, (cell_ne (Ne.symm h.ok.h6)).trans h.on, (cell_nk (by omega)).trans h.mode, World.cell?_setCell_same _ _ _ h.busy, ⟨_, (cell_nk (by omega)).trans hv, hq.setX h.ok.f4⟩, (cell_nk (by omega)).trans h.joined, (cell_nk (by omega)).trans h.began, (cell_nk (by omega)).trans h.wait, (cell_nk (by omega)).trans h.ended, (cell_nk (by omega)).trans h.tries, (cell_nk (by omega)).trans h.off, (cell_nk (by omega)).trans h.free, (cell_nk (by omega)).trans h.block, (cell_nk (by omega)).trans h.count, ⟨_, (cell_nk (by omega)).trans hg, hG.setX h.ok.f4⟩, fun j => by rw [World.frozen?_setCell]; exact h.zob j, fun j => by rw [World.frozen?_setCell]; exact h.zsb j, h.ok⟩
theorem RAt.joined' (h : RAt w F A c now s on) (x : Nat) : RAt (w.setCell ⟨A.sb, 3, none⟩ (.int .i64 x)) F A c now { s with joined := x } on := by
  obtain ⟨_, hv, hq⟩ := h.que
  obtain ⟨_, hg, hG⟩ := h.got
  exact ⟨h.cfg.setX (Ne.symm h.ok.h3), (cell_ne (Ne.symm h.ok.h3)).trans h.now, (cell_ne (Ne.symm h.ok.h3)).trans h.lst, (cell_ne (Ne.symm h.ok.h3)).trans h.onl, (cell_ne (Ne.symm h.ok.h5)).trans h.ptr, (cell_ne (Ne.symm h.ok.h6)).trans h.on, (cell_nk (by omega)).trans h.mode, (cell_nk (by omega)).trans h.busy, ⟨_, (cell_nk (by omega)).trans hv, hq.setX h.ok.f4⟩, World.cell?_setCell_same _ _ _ h.joined, (cell_nk (by omega)).trans h.began, (cell_nk (by omega)).trans h.wait, (cell_nk (by omega)).trans h.ended, (cell_nk (by omega)).trans h.tries, (cell_nk (by omega)).trans h.off, (cell_nk (by omega)).trans h.free, (cell_nk (by omega)).trans h.block, (cell_nk (by omega)).trans h.count, ⟨_, (cell_nk (by omega)).trans hg, hG.setX h.ok.f4⟩, fun j => by rw [World.frozen?_setCell]; exact h.zob j, fun j => by rw [World.frozen?_setCell]; exact h.zsb j, h.ok⟩
theorem RAt.began' (h : RAt w F A c now s on) (x : Nat) : RAt (w.setCell ⟨A.sb, 4, none⟩ (.int .i64 x)) F A c now { s with began := x } on := by
  obtain ⟨_, hv, hq⟩ := h.que
  obtain ⟨_, hg, hG⟩ := h.got
  exact ⟨h.cfg.setX (Ne.symm h.ok.h3), (cell_ne (Ne.symm h.ok.h3)).trans h.now, (cell_ne (Ne.symm h.ok.h3)).trans h.lst, (cell_ne (Ne.symm h.ok.h3)).trans h.onl, (cell_ne (Ne.symm h.ok.h5)).trans h.ptr, (cell_ne (Ne.symm h.ok.h6)).trans h.on, (cell_nk (by omega)).trans h.mode, (cell_nk (by omega)).trans h.busy, ⟨_, (cell_nk (by omega)).trans hv, hq.setX h.ok.f4⟩, (cell_nk (by omega)).trans h.joined, World.cell?_setCell_same _ _ _ h.began, (cell_nk (by omega)).trans h.wait, (cell_nk (by omega)).trans h.ended, (cell_nk (by omega)).trans h.tries, (cell_nk (by omega)).trans h.off, (cell_nk (by omega)).trans h.free, (cell_nk (by omega)).trans h.block, (cell_nk (by omega)).trans h.count, ⟨_, (cell_nk (by omega)).trans hg, hG.setX h.ok.f4⟩, fun j => by rw [World.frozen?_setCell]; exact h.zob j, fun j => by rw [World.frozen?_setCell]; exact h.zsb j, h.ok⟩
theorem RAt.wait' (h : RAt w F A c now s on) (x : Nat) : RAt (w.setCell ⟨A.sb, 5, none⟩ (.int .i64 x)) F A c now { s with wait := x } on := by
  obtain ⟨_, hv, hq⟩ := h.que
  obtain ⟨_, hg, hG⟩ := h.got
  exact ⟨h.cfg.setX (Ne.symm h.ok.h3), (cell_ne (Ne.symm h.ok.h3)).trans h.now, (cell_ne (Ne.symm h.ok.h3)).trans h.lst, (cell_ne (Ne.symm h.ok.h3)).trans h.onl, (cell_ne (Ne.symm h.ok.h5)).trans h.ptr, (cell_ne (Ne.symm h.ok.h6)).trans h.on, (cell_nk (by omega)).trans h.mode, (cell_nk (by omega)).trans h.busy, ⟨_, (cell_nk (by omega)).trans hv, hq.setX h.ok.f4⟩, (cell_nk (by omega)).trans h.joined, (cell_nk (by omega)).trans h.began, World.cell?_setCell_same _ _ _ h.wait, (cell_nk (by omega)).trans h.ended, (cell_nk (by omega)).trans h.tries, (cell_nk (by omega)).trans h.off, (cell_nk (by omega)).trans h.free, (cell_nk (by omega)).trans h.block, (cell_nk (by omega)).trans h.count, ⟨_, (cell_nk (by omega)).trans hg, hG.setX h.ok.f4⟩, fun j => by rw [World.frozen?_setCell]; exact h.zob j, fun j => by rw [World.frozen?_setCell]; exact h.zsb j, h.ok⟩
theorem RAt.ended' (h : RAt w F A c now s on) (x : Int) : RAt (w.setCell ⟨A.sb, 6, none⟩ (.int .i64 x)) F A c now { s with ended := x } on := by
  obtain ⟨_, hv, hq⟩ := h.que
  obtain ⟨_, hg, hG⟩ := h.got
  exact ⟨h.cfg.setX (Ne.symm h.ok.h3), (cell_ne (Ne.symm h.ok.h3)).trans h.now, (cell_ne (Ne.symm h.ok.h3)).trans h.lst, (cell_ne (Ne.symm h.ok.h3)).trans h.onl, (cell_ne (Ne.symm h.ok.h5)).trans h.ptr, (cell_ne (Ne.symm h.ok.h6)).trans h.on, (cell_nk (by omega)).trans h.mode, (cell_nk (by omega)).trans h.busy, ⟨_, (cell_nk (by omega)).trans hv, hq.setX h.ok.f4⟩, (cell_nk (by omega)).trans h.joined, (cell_nk (by omega)).trans h.began, (cell_nk (by omega)).trans h.wait, World.cell?_setCell_same _ _ _ h.ended, (cell_nk (by omega)).trans h.tries, (cell_nk (by omega)).trans h.off, (cell_nk (by omega)).trans h.free, (cell_nk (by omega)).trans h.block, (cell_nk (by omega)).trans h.count, ⟨_, (cell_nk (by omega)).trans hg, hG.setX h.ok.f4⟩, fun j => by rw [World.frozen?_setCell]; exact h.zob j, fun j => by rw [World.frozen?_setCell]; exact h.zsb j, h.ok⟩
theorem RAt.tries' (h : RAt w F A c now s on) (x : Nat) : RAt (w.setCell ⟨A.sb, 7, none⟩ (.int .i64 x)) F A c now { s with tries := x } on := by
  obtain ⟨_, hv, hq⟩ := h.que
  obtain ⟨_, hg, hG⟩ := h.got
  exact ⟨h.cfg.setX (Ne.symm h.ok.h3), (cell_ne (Ne.symm h.ok.h3)).trans h.now, (cell_ne (Ne.symm h.ok.h3)).trans h.lst, (cell_ne (Ne.symm h.ok.h3)).trans h.onl, (cell_ne (Ne.symm h.ok.h5)).trans h.ptr, (cell_ne (Ne.symm h.ok.h6)).trans h.on, (cell_nk (by omega)).trans h.mode, (cell_nk (by omega)).trans h.busy, ⟨_, (cell_nk (by omega)).trans hv, hq.setX h.ok.f4⟩, (cell_nk (by omega)).trans h.joined, (cell_nk (by omega)).trans h.began, (cell_nk (by omega)).trans h.wait, (cell_nk (by omega)).trans h.ended, World.cell?_setCell_same _ _ _ h.tries, (cell_nk (by omega)).trans h.off, (cell_nk (by omega)).trans h.free, (cell_nk (by omega)).trans h.block, (cell_nk (by omega)).trans h.count, ⟨_, (cell_nk (by omega)).trans hg, hG.setX h.ok.f4⟩, fun j => by rw [World.frozen?_setCell]; exact h.zob j, fun j => by rw [World.frozen?_setCell]; exact h.zsb j, h.ok⟩
theorem RAt.off' (h : RAt w F A c now s on) (x : Nat) : RAt (w.setCell ⟨A.sb, 8, none⟩ (.int .i64 x)) F A c now { s with off := x } on := by
  obtain ⟨_, hv, hq⟩ := h.que
  obtain ⟨_, hg, hG⟩ := h.got
  exact ⟨h.cfg.setX (Ne.symm h.ok.h3), (cell_ne (Ne.symm h.ok.h3)).trans h.now, (cell_ne (Ne.symm h.ok.h3)).trans h.lst, (cell_ne (Ne.symm h.ok.h3)).trans h.onl, (cell_ne (Ne.symm h.ok.h5)).trans h.ptr, (cell_ne (Ne.symm h.ok.h6)).trans h.on, (cell_nk (by omega)).trans h.mode, (cell_nk (by omega)).trans h.busy, ⟨_, (cell_nk (by omega)).trans hv, hq.setX h.ok.f4⟩, (cell_nk (by omega)).trans h.joined, (cell_nk (by omega)).trans h.began, (cell_nk (by omega)).trans h.wait, (cell_nk (by omega)).trans h.ended, (cell_nk (by omega)).trans h.tries, World.cell?_setCell_same _ _ _ h.off, (cell_nk (by omega)).trans h.free, (cell_nk (by omega)).trans h.block, (cell_nk (by omega)).trans h.count, ⟨_, (cell_nk (by omega)).trans hg, hG.setX h.ok.f4⟩, fun j => by rw [World.frozen?_setCell]; exact h.zob j, fun j => by rw [World.frozen?_setCell]; exact h.zsb j, h.ok⟩
theorem RAt.free' (h : RAt w F A c now s on) (x : Bool) : RAt (w.setCell ⟨A.sb, 9, none⟩ (.bool x)) F A c now { s with free := x } on := by
  obtain ⟨_, hv, hq⟩ := h.que
  obtain ⟨_, hg, hG⟩ := h.got
  exact ⟨h.cfg.setX (Ne.symm h.ok.h3), (cell_ne (Ne.symm h.ok.h3)).trans h.now, (cell_ne (Ne.symm h.ok.h3)).trans h.lst, (cell_ne (Ne.symm h.ok.h3)).trans h.onl, (cell_ne (Ne.symm h.ok.h5)).trans h.ptr, (cell_ne (Ne.symm h.ok.h6)).trans h.on, (cell_nk (by omega)).trans h.mode, (cell_nk (by omega)).trans h.busy, ⟨_, (cell_nk (by omega)).trans hv, hq.setX h.ok.f4⟩, (cell_nk (by omega)).trans h.joined, (cell_nk (by omega)).trans h.began, (cell_nk (by omega)).trans h.wait, (cell_nk (by omega)).trans h.ended, (cell_nk (by omega)).trans h.tries, (cell_nk (by omega)).trans h.off, World.cell?_setCell_same _ _ _ h.free, (cell_nk (by omega)).trans h.block, (cell_nk (by omega)).trans h.count, ⟨_, (cell_nk (by omega)).trans hg, hG.setX h.ok.f4⟩, fun j => by rw [World.frozen?_setCell]; exact h.zob j, fun j => by rw [World.frozen?_setCell]; exact h.zsb j, h.ok⟩
theorem RAt.block' (h : RAt w F A c now s on) (x : Nat) : RAt (w.setCell ⟨A.sb, 10, none⟩ (.int .i64 x)) F A c now { s with block := x } on := by
  obtain ⟨_, hv, hq⟩ := h.que
  obtain ⟨_, hg, hG⟩ := h.got
  exact ⟨h.cfg.setX (Ne.symm h.ok.h3), (cell_ne (Ne.symm h.ok.h3)).trans h.now, (cell_ne (Ne.symm h.ok.h3)).trans h.lst, (cell_ne (Ne.symm h.ok.h3)).trans h.onl, (cell_ne (Ne.symm h.ok.h5)).trans h.ptr, (cell_ne (Ne.symm h.ok.h6)).trans h.on, (cell_nk (by omega)).trans h.mode, (cell_nk (by omega)).trans h.busy, ⟨_, (cell_nk (by omega)).trans hv, hq.setX h.ok.f4⟩, (cell_nk (by omega)).trans h.joined, (cell_nk (by omega)).trans h.began, (cell_nk (by omega)).trans h.wait, (cell_nk (by omega)).trans h.ended, (cell_nk (by omega)).trans h.tries, (cell_nk (by omega)).trans h.off, (cell_nk (by omega)).trans h.free, World.cell?_setCell_same _ _ _ h.block, (cell_nk (by omega)).trans h.count, ⟨_, (cell_nk (by omega)).trans hg, hG.setX h.ok.f4⟩, fun j => by rw [World.frozen?_setCell]; exact h.zob j, fun j => by rw [World.frozen?_setCell]; exact h.zsb j, h.ok⟩
theorem RAt.count' (h : RAt w F A c now s on) (x : Nat) : RAt (w.setCell ⟨A.sb, 11, none⟩ (.int .i64 x)) F A c now { s with count := x } on := by
  obtain ⟨_, hv, hq⟩ := h.que
  obtain ⟨_, hg, hG⟩ := h.got
  exact ⟨h.cfg.setX (Ne.symm h.ok.h3), (cell_ne (Ne.symm h.ok.h3)).trans h.now, (cell_ne (Ne.symm h.ok.h3)).trans h.lst, (cell_ne (Ne.symm h.ok.h3)).trans h.onl, (cell_ne (Ne.symm h.ok.h5)).trans h.ptr, (cell_ne (Ne.symm h.ok.h6)).trans h.on, (cell_nk (by omega)).trans h.mode, (cell_nk (by omega)).trans h.busy, ⟨_, (cell_nk (by omega)).trans hv, hq.setX h.ok.f4⟩, (cell_nk (by omega)).trans h.joined, (cell_nk (by omega)).trans h.began, (cell_nk (by omega)).trans h.wait, (cell_nk (by omega)).trans h.ended, (cell_nk (by omega)).trans h.tries, (cell_nk (by omega)).trans h.off, (cell_nk (by omega)).trans h.free, (cell_nk (by omega)).trans h.block, World.cell?_setCell_same _ _ _ h.count, ⟨_, (cell_nk (by omega)).trans hg, hG.setX h.ok.f4⟩, fun j => by rw [World.frozen?_setCell]; exact h.zob j, fun j => by rw [World.frozen?_setCell]; exact h.zsb j, h.ok⟩
theorem RAt.on' (h : RAt w F A c now s on) (x : List UInt8) : RAt (w.setCell ⟨A.ob, A.i, none⟩ (.string ⟨x.toArray⟩)) F A c now s x := by
  obtain ⟨_, hv, hq⟩ := h.que
  obtain ⟨_, hg, hG⟩ := h.got
  exact ⟨h.cfg.setX (Ne.symm h.ok.h2), (cell_ne (Ne.symm h.ok.h2)).trans h.now, (cell_ne (Ne.symm h.ok.h2)).trans h.lst, (cell_ne (Ne.symm h.ok.h2)).trans h.onl, (cell_ne (Ne.symm h.ok.h4)).trans h.ptr, World.cell?_setCell_same _ _ _ h.on, (cell_ne h.ok.h6).trans h.mode, (cell_ne h.ok.h6).trans h.busy, ⟨_, (cell_ne h.ok.h6).trans hv, hq.setX h.ok.f3⟩, (cell_ne h.ok.h6).trans h.joined, (cell_ne h.ok.h6).trans h.began, (cell_ne h.ok.h6).trans h.wait, (cell_ne h.ok.h6).trans h.ended, (cell_ne h.ok.h6).trans h.tries, (cell_ne h.ok.h6).trans h.off, (cell_ne h.ok.h6).trans h.free, (cell_ne h.ok.h6).trans h.block, (cell_ne h.ok.h6).trans h.count, ⟨_, (cell_ne h.ok.h6).trans hg, hG.setX h.ok.f3⟩, fun j => by rw [World.frozen?_setCell]; exact h.zob j, fun j => by rw [World.frozen?_setCell]; exact h.zsb j, h.ok⟩
end

end Go.Proofs.Ytlbpjcphhocdkaa
