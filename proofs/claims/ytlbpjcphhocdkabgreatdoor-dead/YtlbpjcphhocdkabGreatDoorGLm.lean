/-The program's line in memory: what a station's cells hold, and what a call leaves alone. The line in memory: its configuration, its two stations. A configuration among the arguments, opened: ten numbers. -/
import Derived.Test.YtlbpjcphhocdkabGreatDoorGPa
import Derived.Test.YtlbpjcphhocdkabGreatDoorGRd
import Derived.ArgAppend
import Derived.Test.YtlbpjcphhocdkabGreatDoorOwn
import Derived.ProofKit
import Derived.OpenShut
import Derived.Lib.SmallJoins
namespace Go.Proofs.YtlbpjcphhocdkabGreatDoor
open Go.RowKit Go.Proofs.YtlbpjcphhocdkabGreatDoor.Mod Go.Proofs.YtlbpjcphhocdkabGreatDoor.Pst

/-- All is as it was but for the blocks of F; new ones may have come. -/
structure Fr (F : Nat → Prop) (w w' : World) : Prop where
  os : w'.os = w.os
  tape : w'.tape = w.tape
  output : w'.output = w.output
  size : w.heap.size ≤ w'.heap.size
  block : ∀ k, k < w.heap.size → ¬ F k → w'.heap[k]? = w.heap[k]?

theorem Fr.refl (F : Nat → Prop) (w : World) : Fr F w w := ⟨rfl, rfl, rfl, Nat.le_refl _, fun _ _ _ => rfl⟩
theorem Fr.trans {F G : Nat → Prop} {a b c : World} (h : Fr F a b) (k : Fr G b c) (hG : ∀ g, g < a.heap.size → G g → F g) : Fr F a c :=
  ⟨k.os.trans h.os, k.tape.trans h.tape, k.output.trans h.output, Nat.le_trans h.size k.size, fun i hi hn => (k.block i (Nat.lt_of_lt_of_le hi h.size) (fun x => hn (hG i hi x))).trans (h.block i hi hn)⟩
theorem Fr.mono {F G : Nat → Prop} {a b : World} (h : Fr F a b) (hG : ∀ g, F g → G g) : Fr G a b := ⟨h.os, h.tape, h.output, h.size, fun i hi hn => h.block i hi (fun x => hn (hG i x))⟩
theorem Fr.of_below {F : Nat → Prop} {a b : World} (h : Below a.heap.size a b) : Fr F a b := ⟨h.os, h.tape, h.output, h.size, fun i hi _ => h.block i hi⟩
/-- The blocks of F, and all new ones. -/
def Plus (F : Nat → Prop) (w : World) : Nat → Prop := fun g => F g ∨ w.heap.size ≤ g

/-- All is as it was but for the fifteen cells from ⟨b, o⟩ on; new blocks may have come. -/
structure Bes (b o : Nat) (w w' : World) : Prop where
  os : w'.os = w.os
  tape : w'.tape = w.tape
  output : w'.output = w.output
  size : w.heap.size ≤ w'.heap.size
  block : ∀ k, k < w.heap.size → k ≠ b → w'.heap[k]? = w.heap[k]?
  cell : ∀ j, j < o ∨ o + 15 ≤ j → w'.cell? ⟨b, j, none⟩ = w.cell? ⟨b, j, none⟩
  froz : ∀ j, w'.frozen? ⟨b, j, none⟩ = w.frozen? ⟨b, j, none⟩

section
variable {b o : Nat} {u w w' : World}
theorem Bes.refl (b o : Nat) (w : World) : Bes b o w w := ⟨rfl, rfl, rfl, Nat.le_refl _, fun _ _ _ => rfl, fun _ _ => rfl, fun _ => rfl⟩
theorem Bes.trans (h : Bes b o u w) (k : Bes b o w w') : Bes b o u w' :=
  ⟨k.os.trans h.os, k.tape.trans h.tape, k.output.trans h.output, Nat.le_trans h.size k.size, fun i hi hn => (k.block i (Nat.lt_of_lt_of_le hi h.size) hn).trans (h.block i hi hn), fun j hj => (k.cell j hj).trans (h.cell j hj), fun j => (k.froz j).trans (h.froz j)⟩
theorem Bes.set (h : Bes b o u w) (k : Nat) (hk : k < 15) (v : Value) : Bes b o u (w.setCell ⟨b, o + k, none⟩ v) :=
  h.trans ⟨rfl, rfl, rfl, by simp, fun i _ hn => Below.heap_setCell _ _ _ _ hn, fun j hj => World.cell?_setCell_other _ _ _ _ (by simp only [ne_eq, Addr.mk.injEq, not_and]; omega), fun j => by simp⟩
theorem Bes.set0 (h : Bes b o u w) (v : Value) : Bes b o u (w.setCell ⟨b, o, none⟩ v) := h.set 0 (by omega) v
theorem Bes.below (h : Bes b o u w) (hb : b < w.heap.size) (k : Below w.heap.size w w') : Bes b o u w' :=
  h.trans ⟨k.os, k.tape, k.output, k.size, fun i hi _ => k.block i hi, fun _ _ => k.cell hb, fun _ => k.frozen hb⟩
theorem Bes.alloc (h : Bes b o u w) (hb : b < w.heap.size) (x : Obj) : Bes b o u (w.alloc x) := h.below hb ((Below.refl _ _).alloc (Nat.le_refl _) x)
theorem Bes.drew (h : Bes b o u w) : Bes b o u w.drew := ⟨h.os, h.tape, h.output, h.size, h.block, h.cell, h.froz⟩
theorem Bes.fr (h : Bes b o u w) : Fr (fun g => g = b) u w := ⟨h.os, h.tape, h.output, h.size, h.block⟩
end

/-- A message's cells. -/
def msgCells (m : Msg) : List Value := [.string ⟨m.head.toArray⟩, .string ⟨m.text.toArray⟩, .bool m.clear]
def mcells (l : List Msg) : List Value := (l.map msgCells).flatten
theorem mcells_append (l r : List Msg) : mcells (l ++ r) = mcells l ++ mcells r := by simp [mcells]
theorem mcells_cons (m : Msg) (l : List Msg) : mcells (m :: l) = msgCells m ++ mcells l := by simp [mcells]
theorem mcells_length (l : List Msg) : (mcells l).length = l.length * 3 := by
  induction l with
  | nil => rfl
  | cons m l ih => rw [mcells_cons, List.length_append, ih]; simp [msgCells]; omega
theorem mcells_get (l : List Msg) (i k : Nat) (hk : k < 3) (hi : i < l.length) : (mcells l)[i * 3 + k]? = (msgCells (l.getD i noMsg))[k]? := by
  induction l generalizing i with
  | nil => simp at hi
  | cons m l ih =>
    rw [mcells_cons]
    cases i with
    | zero => rw [List.getElem?_append_left (by simp [msgCells]; omega)]; simp
    | succ i =>
      rw [List.getElem?_append_right (by simp [msgCells]; omega)]
      simp only [msgCells, List.length_cons, List.length_nil]
      rw [show (i + 1) * 3 + k - (0 + 1 + 1 + 1) = i * 3 + k by omega, ih i (by simpa using hi)]
      simp [msgCells]

/-- The slice value v, its block one of F, holds just these messages. -/
def QAt (w : World) (F : Nat → Prop) (v : Value) (l : List Msg) : Prop := w.ownsRow 0 36 3 v l.length (mcells l) ∧ ∀ g, v.ownBlock = some g → F g

theorem QAt.keep {w w' : World} {F : Nat → Prop} {v : Value} {l : List Msg} (h : QAt w F v l) (hb : ∀ g, F g → g < w.heap.size → w'.heap[g]? = w.heap[g]?) : QAt w' F v l := by
  obtain ⟨⟨h1, h2⟩, hF⟩ := h
  refine ⟨⟨h1, ?_⟩, hF⟩
  rcases h2 with h2 | ⟨g, cap, cur, hv, hB, hh, r⟩
  · exact Or.inl h2
  · exact Or.inr ⟨g, cap, cur, hv, hB, (hb g (hF g (by rw [hv]; rfl)) (lt_of_block hh)).trans hh, r⟩
theorem QAt.mono {w : World} {F G : Nat → Prop} {v : Value} {l : List Msg} (h : QAt w F v l) (hG : ∀ g, F g → G g) : QAt w G v l := ⟨h.1, fun g hg => hG g (h.2 g hg)⟩
theorem QAt.lt {w : World} {F : Nat → Prop} {v : Value} {l : List Msg} (h : QAt w F v l) : ∀ g, v.ownBlock = some g → g < w.heap.size := fun g hg => (World.ownsRow.lt h.1 g hg).2
theorem QAt.form {w : World} {F : Nat → Prop} {v : Value} {l : List Msg} (h : QAt w F v l) : ∃ a cap, v = .slice a l.length cap := by
  rcases h.1.2 with ⟨rfl, h0⟩ | ⟨g, cap, cur, rfl, _⟩
  · exact ⟨none, 0, by rw [h0]⟩
  · exact ⟨_, cap, rfl⟩
theorem QAt.nil (w : World) (F : Nat → Prop) : QAt w F (.slice none 0 0) [] := ⟨World.ownsRow_nil w 0 _ _, fun g hg => by cases hg⟩

/-- The cells from ⟨b, o⟩ on are a station's. -/
structure StAt (w : World) (F : Nat → Prop) (b o : Nat) (s : PS) : Prop where
  side : w.cell? ⟨b, o, none⟩ = some (.int .i64 s.side)
  que : ∃ v, w.cell? ⟨b, o + 1, none⟩ = some v ∧ QAt w F v s.q
  joined : w.cell? ⟨b, o + 2, none⟩ = some (.int .i64 s.joined)
  busy : w.cell? ⟨b, o + 3, none⟩ = some (.bool s.busy)
  put : w.cell? ⟨b, o + 4, none⟩ = some (.string ⟨s.put.toArray⟩)
  mode : w.cell? ⟨b, o + 5, none⟩ = some (.int .i64 s.mode)
  wait : w.cell? ⟨b, o + 6, none⟩ = some (.int .i64 s.wait)
  rest : w.cell? ⟨b, o + 7, none⟩ = some (.int .i64 s.rest)
  tries : w.cell? ⟨b, o + 8, none⟩ = some (.int .i64 s.tries)
  off : w.cell? ⟨b, o + 9, none⟩ = some (.int .i64 s.off)
  free : w.cell? ⟨b, o + 10, none⟩ = some (.bool s.free)
  block : w.cell? ⟨b, o + 11, none⟩ = some (.int .i64 s.block)
  head : w.cell? ⟨b, o + 12, none⟩ = some (.string ⟨s.head.toArray⟩)
  text : w.cell? ⟨b, o + 13, none⟩ = some (.string ⟨s.text.toArray⟩)
  yes : w.cell? ⟨b, o + 14, none⟩ = some (.int .i64 s.yes)
  fz : ∀ j, w.frozen? ⟨b, j, none⟩ = false
  nb : ¬ F b

section
variable {w w' : World} {F : Nat → Prop} {b o : Nat} {s : PS}
theorem StAt.lt (h : StAt w F b o s) : b < w.heap.size := World.block_lt_of_cell? w _ h.side
/-- Where the block holds the same cells and the queue is as it was. -/
theorem StAt.keep (h : StAt w F b o s) (hc : ∀ k, k < 15 → w'.cell? ⟨b, o + k, none⟩ = w.cell? ⟨b, o + k, none⟩) (hz : ∀ j, w'.frozen? ⟨b, j, none⟩ = w.frozen? ⟨b, j, none⟩) (hb : ∀ g, F g → g < w.heap.size → w'.heap[g]? = w.heap[g]?) : StAt w' F b o s := by
  obtain ⟨v, hv, hq⟩ := h.que
  exact ⟨(hc 0 (by omega)).trans h.side, ⟨v, (hc 1 (by omega)).trans hv, hq.keep hb⟩, (hc 2 (by omega)).trans h.joined, (hc 3 (by omega)).trans h.busy, (hc 4 (by omega)).trans h.put, (hc 5 (by omega)).trans h.mode, (hc 6 (by omega)).trans h.wait,
    (hc 7 (by omega)).trans h.rest, (hc 8 (by omega)).trans h.tries, (hc 9 (by omega)).trans h.off, (hc 10 (by omega)).trans h.free, (hc 11 (by omega)).trans h.block, (hc 12 (by omega)).trans h.head, (hc 13 (by omega)).trans h.text, (hc 14 (by omega)).trans h.yes, fun j => (hz j).trans (h.fz j), h.nb⟩
theorem StAt.below (h : StAt w F b o s) (k : Below w.heap.size w w') : StAt w' F b o s :=
  h.keep (fun _ _ => k.cell h.lt) (fun _ => k.frozen h.lt) (fun g _ hg => k.block g hg)
theorem StAt.alloc (h : StAt w F b o s) (x : Obj) : StAt (w.alloc x) F b o s := h.below ((Below.refl _ _).alloc (Nat.le_refl _) x)
theorem StAt.drew (h : StAt w F b o s) : StAt w.drew F b o s := ⟨h.side, h.que, h.joined, h.busy, h.put, h.mode, h.wait, h.rest, h.tries, h.off, h.free, h.block, h.head, h.text, h.yes, h.fz, h.nb⟩
theorem StAt.mono {G : Nat → Prop} (h : StAt w F b o s) (hG : ∀ g, F g → G g) (hn : ¬ G b) : StAt w G b o s := by
  obtain ⟨v, hv, hq⟩ := h.que
  exact ⟨h.side, ⟨v, hv, hq.mono hG⟩, h.joined, h.busy, h.put, h.mode, h.wait, h.rest, h.tries, h.off, h.free, h.block, h.head, h.text, h.yes, h.fz, hn⟩
theorem StAt.plus (h : StAt w F b o s) {u : World} (hu : b < u.heap.size) : StAt w (Plus F u) b o s := h.mono (fun _ => Or.inl) (fun x => x.elim h.nb (fun y => by omega))

/-- One cell of the station set: the others are as they were. -/
theorem cell_set (k j : Nat) (v : Value) (h : k ≠ j) : (w.setCell ⟨b, o + k, none⟩ v).cell? ⟨b, o + j, none⟩ = w.cell? ⟨b, o + j, none⟩ := World.cell?_setCell_other _ _ _ _ (by simp only [ne_eq, Addr.mk.injEq, not_and]; omega)
theorem cell_set0 (k : Nat) (v : Value) (h : k ≠ 0) : (w.setCell ⟨b, o + k, none⟩ v).cell? ⟨b, o, none⟩ = w.cell? ⟨b, o, none⟩ := World.cell?_setCell_other _ _ _ _ (by simp only [ne_eq, Addr.mk.injEq, not_and]; omega)
theorem QAt.set (hn : ¬ F b) {q : Value} {l : List Msg} (h : QAt w F q l) (k : Nat) (v : Value) : QAt (w.setCell ⟨b, k, none⟩ v) F q l := h.keep fun g hg _ => Below.heap_setCell _ _ _ _ (fun e => hn (by subst e; exact hg))
theorem que_set (h : StAt w F b o s) (k : Nat) (v : Value) (hk : k ≠ 1) : ∃ q, (w.setCell ⟨b, o + k, none⟩ v).cell? ⟨b, o + 1, none⟩ = some q ∧ QAt (w.setCell ⟨b, o + k, none⟩ v) F q s.q := by
  obtain ⟨q, hv, hq⟩ := h.que
  exact ⟨q, (cell_set k 1 v hk).trans hv, hq.set h.nb _ _⟩
theorem StAt.joined' (h : StAt w F b o s) (x : Nat) : StAt (w.setCell ⟨b, o + 2, none⟩ (.int .i64 x)) F b o { s with joined := x } :=
  ⟨(cell_set0 2 _ (by omega)).trans h.side, que_set h 2 _ (by omega), World.cell?_setCell_same _ _ _ h.joined, (cell_set 2 3 _ (by omega)).trans h.busy, (cell_set 2 4 _ (by omega)).trans h.put, (cell_set 2 5 _ (by omega)).trans h.mode, (cell_set 2 6 _ (by omega)).trans h.wait, (cell_set 2 7 _ (by omega)).trans h.rest, (cell_set 2 8 _ (by omega)).trans h.tries, (cell_set 2 9 _ (by omega)).trans h.off, (cell_set 2 10 _ (by omega)).trans h.free, (cell_set 2 11 _ (by omega)).trans h.block, (cell_set 2 12 _ (by omega)).trans h.head, (cell_set 2 13 _ (by omega)).trans h.text, (cell_set 2 14 _ (by omega)).trans h.yes, fun j => by rw [World.frozen?_setCell]; exact h.fz j, h.nb⟩
theorem StAt.busy' (h : StAt w F b o s) (x : Bool) : StAt (w.setCell ⟨b, o + 3, none⟩ (.bool x)) F b o { s with busy := x } :=
  ⟨(cell_set0 3 _ (by omega)).trans h.side, que_set h 3 _ (by omega), (cell_set 3 2 _ (by omega)).trans h.joined, World.cell?_setCell_same _ _ _ h.busy, (cell_set 3 4 _ (by omega)).trans h.put, (cell_set 3 5 _ (by omega)).trans h.mode, (cell_set 3 6 _ (by omega)).trans h.wait, (cell_set 3 7 _ (by omega)).trans h.rest, (cell_set 3 8 _ (by omega)).trans h.tries, (cell_set 3 9 _ (by omega)).trans h.off, (cell_set 3 10 _ (by omega)).trans h.free, (cell_set 3 11 _ (by omega)).trans h.block, (cell_set 3 12 _ (by omega)).trans h.head, (cell_set 3 13 _ (by omega)).trans h.text, (cell_set 3 14 _ (by omega)).trans h.yes, fun j => by rw [World.frozen?_setCell]; exact h.fz j, h.nb⟩
theorem StAt.put' (h : StAt w F b o s) (x : List UInt8) : StAt (w.setCell ⟨b, o + 4, none⟩ (.string ⟨x.toArray⟩)) F b o { s with put := x } :=
  ⟨(cell_set0 4 _ (by omega)).trans h.side, que_set h 4 _ (by omega), (cell_set 4 2 _ (by omega)).trans h.joined, (cell_set 4 3 _ (by omega)).trans h.busy, World.cell?_setCell_same _ _ _ h.put, (cell_set 4 5 _ (by omega)).trans h.mode, (cell_set 4 6 _ (by omega)).trans h.wait, (cell_set 4 7 _ (by omega)).trans h.rest, (cell_set 4 8 _ (by omega)).trans h.tries, (cell_set 4 9 _ (by omega)).trans h.off, (cell_set 4 10 _ (by omega)).trans h.free, (cell_set 4 11 _ (by omega)).trans h.block, (cell_set 4 12 _ (by omega)).trans h.head, (cell_set 4 13 _ (by omega)).trans h.text, (cell_set 4 14 _ (by omega)).trans h.yes, fun j => by rw [World.frozen?_setCell]; exact h.fz j, h.nb⟩
theorem StAt.mode' (h : StAt w F b o s) (x : Nat) : StAt (w.setCell ⟨b, o + 5, none⟩ (.int .i64 x)) F b o { s with mode := x } :=
  ⟨(cell_set0 5 _ (by omega)).trans h.side, que_set h 5 _ (by omega), (cell_set 5 2 _ (by omega)).trans h.joined, (cell_set 5 3 _ (by omega)).trans h.busy, (cell_set 5 4 _ (by omega)).trans h.put, World.cell?_setCell_same _ _ _ h.mode, (cell_set 5 6 _ (by omega)).trans h.wait, (cell_set 5 7 _ (by omega)).trans h.rest, (cell_set 5 8 _ (by omega)).trans h.tries, (cell_set 5 9 _ (by omega)).trans h.off, (cell_set 5 10 _ (by omega)).trans h.free, (cell_set 5 11 _ (by omega)).trans h.block, (cell_set 5 12 _ (by omega)).trans h.head, (cell_set 5 13 _ (by omega)).trans h.text, (cell_set 5 14 _ (by omega)).trans h.yes, fun j => by rw [World.frozen?_setCell]; exact h.fz j, h.nb⟩
theorem StAt.wait' (h : StAt w F b o s) (x : Nat) : StAt (w.setCell ⟨b, o + 6, none⟩ (.int .i64 x)) F b o { s with wait := x } :=
  ⟨(cell_set0 6 _ (by omega)).trans h.side, que_set h 6 _ (by omega), (cell_set 6 2 _ (by omega)).trans h.joined, (cell_set 6 3 _ (by omega)).trans h.busy, (cell_set 6 4 _ (by omega)).trans h.put, (cell_set 6 5 _ (by omega)).trans h.mode, World.cell?_setCell_same _ _ _ h.wait, (cell_set 6 7 _ (by omega)).trans h.rest, (cell_set 6 8 _ (by omega)).trans h.tries, (cell_set 6 9 _ (by omega)).trans h.off, (cell_set 6 10 _ (by omega)).trans h.free, (cell_set 6 11 _ (by omega)).trans h.block, (cell_set 6 12 _ (by omega)).trans h.head, (cell_set 6 13 _ (by omega)).trans h.text, (cell_set 6 14 _ (by omega)).trans h.yes, fun j => by rw [World.frozen?_setCell]; exact h.fz j, h.nb⟩
theorem StAt.rest' (h : StAt w F b o s) (x : Nat) : StAt (w.setCell ⟨b, o + 7, none⟩ (.int .i64 x)) F b o { s with rest := x } :=
  ⟨(cell_set0 7 _ (by omega)).trans h.side, que_set h 7 _ (by omega), (cell_set 7 2 _ (by omega)).trans h.joined, (cell_set 7 3 _ (by omega)).trans h.busy, (cell_set 7 4 _ (by omega)).trans h.put, (cell_set 7 5 _ (by omega)).trans h.mode, (cell_set 7 6 _ (by omega)).trans h.wait, World.cell?_setCell_same _ _ _ h.rest, (cell_set 7 8 _ (by omega)).trans h.tries, (cell_set 7 9 _ (by omega)).trans h.off, (cell_set 7 10 _ (by omega)).trans h.free, (cell_set 7 11 _ (by omega)).trans h.block, (cell_set 7 12 _ (by omega)).trans h.head, (cell_set 7 13 _ (by omega)).trans h.text, (cell_set 7 14 _ (by omega)).trans h.yes, fun j => by rw [World.frozen?_setCell]; exact h.fz j, h.nb⟩
theorem StAt.tries' (h : StAt w F b o s) (x : Nat) : StAt (w.setCell ⟨b, o + 8, none⟩ (.int .i64 x)) F b o { s with tries := x } :=
  ⟨(cell_set0 8 _ (by omega)).trans h.side, que_set h 8 _ (by omega), (cell_set 8 2 _ (by omega)).trans h.joined, (cell_set 8 3 _ (by omega)).trans h.busy, (cell_set 8 4 _ (by omega)).trans h.put, (cell_set 8 5 _ (by omega)).trans h.mode, (cell_set 8 6 _ (by omega)).trans h.wait, (cell_set 8 7 _ (by omega)).trans h.rest, World.cell?_setCell_same _ _ _ h.tries, (cell_set 8 9 _ (by omega)).trans h.off, (cell_set 8 10 _ (by omega)).trans h.free, (cell_set 8 11 _ (by omega)).trans h.block, (cell_set 8 12 _ (by omega)).trans h.head, (cell_set 8 13 _ (by omega)).trans h.text, (cell_set 8 14 _ (by omega)).trans h.yes, fun j => by rw [World.frozen?_setCell]; exact h.fz j, h.nb⟩
theorem StAt.off' (h : StAt w F b o s) (x : Nat) : StAt (w.setCell ⟨b, o + 9, none⟩ (.int .i64 x)) F b o { s with off := x } :=
  ⟨(cell_set0 9 _ (by omega)).trans h.side, que_set h 9 _ (by omega), (cell_set 9 2 _ (by omega)).trans h.joined, (cell_set 9 3 _ (by omega)).trans h.busy, (cell_set 9 4 _ (by omega)).trans h.put, (cell_set 9 5 _ (by omega)).trans h.mode, (cell_set 9 6 _ (by omega)).trans h.wait, (cell_set 9 7 _ (by omega)).trans h.rest, (cell_set 9 8 _ (by omega)).trans h.tries, World.cell?_setCell_same _ _ _ h.off, (cell_set 9 10 _ (by omega)).trans h.free, (cell_set 9 11 _ (by omega)).trans h.block, (cell_set 9 12 _ (by omega)).trans h.head, (cell_set 9 13 _ (by omega)).trans h.text, (cell_set 9 14 _ (by omega)).trans h.yes, fun j => by rw [World.frozen?_setCell]; exact h.fz j, h.nb⟩
theorem StAt.free' (h : StAt w F b o s) (x : Bool) : StAt (w.setCell ⟨b, o + 10, none⟩ (.bool x)) F b o { s with free := x } :=
  ⟨(cell_set0 10 _ (by omega)).trans h.side, que_set h 10 _ (by omega), (cell_set 10 2 _ (by omega)).trans h.joined, (cell_set 10 3 _ (by omega)).trans h.busy, (cell_set 10 4 _ (by omega)).trans h.put, (cell_set 10 5 _ (by omega)).trans h.mode, (cell_set 10 6 _ (by omega)).trans h.wait, (cell_set 10 7 _ (by omega)).trans h.rest, (cell_set 10 8 _ (by omega)).trans h.tries, (cell_set 10 9 _ (by omega)).trans h.off, World.cell?_setCell_same _ _ _ h.free, (cell_set 10 11 _ (by omega)).trans h.block, (cell_set 10 12 _ (by omega)).trans h.head, (cell_set 10 13 _ (by omega)).trans h.text, (cell_set 10 14 _ (by omega)).trans h.yes, fun j => by rw [World.frozen?_setCell]; exact h.fz j, h.nb⟩
theorem StAt.block' (h : StAt w F b o s) (x : Nat) : StAt (w.setCell ⟨b, o + 11, none⟩ (.int .i64 x)) F b o { s with block := x } :=
  ⟨(cell_set0 11 _ (by omega)).trans h.side, que_set h 11 _ (by omega), (cell_set 11 2 _ (by omega)).trans h.joined, (cell_set 11 3 _ (by omega)).trans h.busy, (cell_set 11 4 _ (by omega)).trans h.put, (cell_set 11 5 _ (by omega)).trans h.mode, (cell_set 11 6 _ (by omega)).trans h.wait, (cell_set 11 7 _ (by omega)).trans h.rest, (cell_set 11 8 _ (by omega)).trans h.tries, (cell_set 11 9 _ (by omega)).trans h.off, (cell_set 11 10 _ (by omega)).trans h.free, World.cell?_setCell_same _ _ _ h.block, (cell_set 11 12 _ (by omega)).trans h.head, (cell_set 11 13 _ (by omega)).trans h.text, (cell_set 11 14 _ (by omega)).trans h.yes, fun j => by rw [World.frozen?_setCell]; exact h.fz j, h.nb⟩
theorem StAt.head' (h : StAt w F b o s) (x : List UInt8) : StAt (w.setCell ⟨b, o + 12, none⟩ (.string ⟨x.toArray⟩)) F b o { s with head := x } :=
  ⟨(cell_set0 12 _ (by omega)).trans h.side, que_set h 12 _ (by omega), (cell_set 12 2 _ (by omega)).trans h.joined, (cell_set 12 3 _ (by omega)).trans h.busy, (cell_set 12 4 _ (by omega)).trans h.put, (cell_set 12 5 _ (by omega)).trans h.mode, (cell_set 12 6 _ (by omega)).trans h.wait, (cell_set 12 7 _ (by omega)).trans h.rest, (cell_set 12 8 _ (by omega)).trans h.tries, (cell_set 12 9 _ (by omega)).trans h.off, (cell_set 12 10 _ (by omega)).trans h.free, (cell_set 12 11 _ (by omega)).trans h.block, World.cell?_setCell_same _ _ _ h.head, (cell_set 12 13 _ (by omega)).trans h.text, (cell_set 12 14 _ (by omega)).trans h.yes, fun j => by rw [World.frozen?_setCell]; exact h.fz j, h.nb⟩
theorem StAt.text' (h : StAt w F b o s) (x : List UInt8) : StAt (w.setCell ⟨b, o + 13, none⟩ (.string ⟨x.toArray⟩)) F b o { s with text := x } :=
  ⟨(cell_set0 13 _ (by omega)).trans h.side, que_set h 13 _ (by omega), (cell_set 13 2 _ (by omega)).trans h.joined, (cell_set 13 3 _ (by omega)).trans h.busy, (cell_set 13 4 _ (by omega)).trans h.put, (cell_set 13 5 _ (by omega)).trans h.mode, (cell_set 13 6 _ (by omega)).trans h.wait, (cell_set 13 7 _ (by omega)).trans h.rest, (cell_set 13 8 _ (by omega)).trans h.tries, (cell_set 13 9 _ (by omega)).trans h.off, (cell_set 13 10 _ (by omega)).trans h.free, (cell_set 13 11 _ (by omega)).trans h.block, (cell_set 13 12 _ (by omega)).trans h.head, World.cell?_setCell_same _ _ _ h.text, (cell_set 13 14 _ (by omega)).trans h.yes, fun j => by rw [World.frozen?_setCell]; exact h.fz j, h.nb⟩
theorem StAt.yes' (h : StAt w F b o s) (x : Nat) : StAt (w.setCell ⟨b, o + 14, none⟩ (.int .i64 x)) F b o { s with yes := x } :=
  ⟨(cell_set0 14 _ (by omega)).trans h.side, que_set h 14 _ (by omega), (cell_set 14 2 _ (by omega)).trans h.joined, (cell_set 14 3 _ (by omega)).trans h.busy, (cell_set 14 4 _ (by omega)).trans h.put, (cell_set 14 5 _ (by omega)).trans h.mode, (cell_set 14 6 _ (by omega)).trans h.wait, (cell_set 14 7 _ (by omega)).trans h.rest, (cell_set 14 8 _ (by omega)).trans h.tries, (cell_set 14 9 _ (by omega)).trans h.off, (cell_set 14 10 _ (by omega)).trans h.free, (cell_set 14 11 _ (by omega)).trans h.block, (cell_set 14 12 _ (by omega)).trans h.head, (cell_set 14 13 _ (by omega)).trans h.text, World.cell?_setCell_same _ _ _ h.yes, fun j => by rw [World.frozen?_setCell]; exact h.fz j, h.nb⟩
end

/-- The station's new queue. -/
theorem StAt.que' {w : World} {F G : Nat → Prop} {b o : Nat} {s : PS} (h : StAt w F b o s) (v : Value) (l : List Msg) (hq : QAt w G v l) (hn : ¬ G b) : StAt (w.setCell ⟨b, o + 1, none⟩ v) G b o { s with q := l } := by
  obtain ⟨q, hv, _⟩ := h.que
  exact ⟨(cell_set0 1 _ (by omega)).trans h.side, ⟨v, World.cell?_setCell_same _ _ _ hv, hq.set hn _ _⟩, (cell_set 1 2 _ (by omega)).trans h.joined, (cell_set 1 3 _ (by omega)).trans h.busy, (cell_set 1 4 _ (by omega)).trans h.put, (cell_set 1 5 _ (by omega)).trans h.mode, (cell_set 1 6 _ (by omega)).trans h.wait, (cell_set 1 7 _ (by omega)).trans h.rest, (cell_set 1 8 _ (by omega)).trans h.tries, (cell_set 1 9 _ (by omega)).trans h.off, (cell_set 1 10 _ (by omega)).trans h.free, (cell_set 1 11 _ (by omega)).trans h.block, (cell_set 1 12 _ (by omega)).trans h.head, (cell_set 1 13 _ (by omega)).trans h.text, (cell_set 1 14 _ (by omega)).trans h.yes, fun j => by rw [World.frozen?_setCell]; exact h.fz j, hn⟩

end Go.Proofs.YtlbpjcphhocdkabGreatDoor

namespace Go.Proofs.YtlbpjcphhocdkabGreatDoor
open Go.RowKit Go.Proofs.YtlbpjcphhocdkabGreatDoor.Mod Go.Proofs.YtlbpjcphhocdkabGreatDoor.Pst

/-- A configuration as a value; in memory. -/
def cfgV (c : Cfg) : Value := .agg #[.int .i64 c.check, .int .i64 c.size, .int .i64 c.parts, .int .i64 c.queue, .int .i64 c.first, .int .i64 c.second, .int .i64 c.reply, .int .i64 c.lost, .int .i64 c.tries, .int .i64 c.waits]
def cfgCells (c : Cfg) : Array Value := #[.int .i64 c.check, .int .i64 c.size, .int .i64 c.parts, .int .i64 c.queue, .int .i64 c.first, .int .i64 c.second, .int .i64 c.reply, .int .i64 c.lost, .int .i64 c.tries, .int .i64 c.waits]
def CfgAt (w : World) (g : Nat) (c : Cfg) : Prop := w.heap[g]? = some (.cells (cfgCells c) 23 (0, 0))

theorem CfgAt.new (w : World) (c : Cfg) : CfgAt (w.alloc (.cells (cfgCells c) 23)) w.heap.size c := heap_alloc_new w _
theorem CfgAt.lt {w : World} {g : Nat} {c : Cfg} (h : CfgAt w g c) : g < w.heap.size := lt_of_block h
theorem CfgAt.below {w w' : World} {g : Nat} {c : Cfg} (h : CfgAt w g c) (k : Below w.heap.size w w') : CfgAt w' g c := (k.block g h.lt).trans h
theorem CfgAt.bes {w w' : World} {g b o : Nat} {c : Cfg} (h : CfgAt w g c) (k : Bes b o w w') (hb : b ≠ g) : CfgAt w' g c := (k.block g h.lt hb.symm).trans h
theorem CfgAt.cell {w : World} {g : Nat} {c : Cfg} (h : CfgAt w g c) (i : Nat) (_hi : i < 10) : w.cell? ⟨g, i, none⟩ = (cfgCells c)[i]? := by
  unfold CfgAt at h
  simp [World.cell?, h]
/-- All ten, as a walk wants them. -/
theorem CfgAt.all {w : World} {g : Nat} {c : Cfg} (h : CfgAt w g c) :
    w.cell? ⟨g, 0, none⟩ = some (.int .i64 c.check) ∧ w.cell? ⟨g, 1, none⟩ = some (.int .i64 c.size) ∧ w.cell? ⟨g, 2, none⟩ = some (.int .i64 c.parts) ∧ w.cell? ⟨g, 3, none⟩ = some (.int .i64 c.queue) ∧ w.cell? ⟨g, 4, none⟩ = some (.int .i64 c.first) ∧
    w.cell? ⟨g, 5, none⟩ = some (.int .i64 c.second) ∧ w.cell? ⟨g, 6, none⟩ = some (.int .i64 c.reply) ∧ w.cell? ⟨g, 7, none⟩ = some (.int .i64 c.lost) ∧ w.cell? ⟨g, 8, none⟩ = some (.int .i64 c.tries) ∧ w.cell? ⟨g, 9, none⟩ = some (.int .i64 c.waits) :=
  ⟨h.cell 0 (by omega), h.cell 1 (by omega), h.cell 2 (by omega), h.cell 3 (by omega), h.cell 4 (by omega), h.cell 5 (by omega), h.cell 6 (by omega), h.cell 7 (by omega), h.cell 8 (by omega), h.cell 9 (by omega)⟩

/-- The line's configuration, in its first ten cells. -/
def CfgL (W : World) (b : Nat) (c : Cfg) : Prop :=
  W.cell? ⟨b, 0, none⟩ = some (.int .i64 c.check) ∧ W.cell? ⟨b, 1, none⟩ = some (.int .i64 c.size) ∧ W.cell? ⟨b, 2, none⟩ = some (.int .i64 c.parts) ∧ W.cell? ⟨b, 3, none⟩ = some (.int .i64 c.queue) ∧ W.cell? ⟨b, 4, none⟩ = some (.int .i64 c.first) ∧
    W.cell? ⟨b, 5, none⟩ = some (.int .i64 c.second) ∧ W.cell? ⟨b, 6, none⟩ = some (.int .i64 c.reply) ∧ W.cell? ⟨b, 7, none⟩ = some (.int .i64 c.lost) ∧ W.cell? ⟨b, 8, none⟩ = some (.int .i64 c.tries) ∧ W.cell? ⟨b, 9, none⟩ = some (.int .i64 c.waits)
theorem CfgL.keep {W W' : World} {b : Nat} {c : Cfg} (h : CfgL W b c) (k : ∀ i, i < 10 → W'.cell? ⟨b, i, none⟩ = W.cell? ⟨b, i, none⟩) : CfgL W' b c := by
  obtain ⟨h0, h1, h2, h3, h4, h5, h6, h7, h8, h9⟩ := h
  exact ⟨(k 0 (by omega)).trans h0, (k 1 (by omega)).trans h1, (k 2 (by omega)).trans h2, (k 3 (by omega)).trans h3, (k 4 (by omega)).trans h4, (k 5 (by omega)).trans h5, (k 6 (by omega)).trans h6, (k 7 (by omega)).trans h7, (k 8 (by omega)).trans h8, (k 9 (by omega)).trans h9⟩

/-- A line: its block, its two queues; all its blocks are of F. -/
structure LnAt (w : World) (F : Nat → Prop) (b : Nat) (c : Cfg) (p0 p1 : PS) : Prop where
  sts : ∃ F0 F1 : Nat → Prop, StAt w F0 b 10 p0 ∧ StAt w F1 b 25 p1 ∧ (∀ g, F0 g → F g ∧ g < w.heap.size) ∧ (∀ g, F1 g → F g ∧ g < w.heap.size) ∧ (∀ g, F0 g → ¬ F1 g)
  cfg : CfgL w b c
  own : F b

section
variable {w w' : World} {F G : Nat → Prop} {b o : Nat} {s : PS} {c : Cfg} {p0 p1 : PS}
/-- The other station. -/
theorem StAt.beside {o2 : Nat} (h : StAt w F b o2 s) (k : Bes b o w w') (ho : o2 + 15 ≤ o ∨ o + 15 ≤ o2) : StAt w' F b o2 s :=
  h.keep (fun i hi => k.cell (o2 + i) (by omega)) k.froz (fun g hg hl => k.block g hl (fun e => h.nb (by rw [← e]; exact hg)))
theorem CfgL.bes (h : CfgL w b c) (k : Bes b o w w') (ho : 10 ≤ o) : CfgL w' b c := h.keep fun i hi => k.cell i (by omega)
theorem CfgL.below (h : CfgL w b c) (k : Below w.heap.size w w') (hb : b < w.heap.size) : CfgL w' b c := h.keep fun _ _ => k.cell hb
theorem StAt.bound (h : StAt w F b o s) : StAt w (fun g => F g ∧ g < w.heap.size) b o s := by
  obtain ⟨v, hv, hq⟩ := h.que
  exact ⟨h.side, ⟨v, hv, hq.1, fun g hg => ⟨hq.2 g hg, hq.lt g hg⟩⟩, h.joined, h.busy, h.put, h.mode, h.wait, h.rest, h.tries, h.off, h.free, h.block, h.head, h.text, h.yes, h.fz, fun x => h.nb x.1⟩
theorem LnAt.lt (h : LnAt w F b c p0 p1) : b < w.heap.size := by obtain ⟨F0, F1, h0, _⟩ := h.sts; exact h0.lt
theorem LnAt.mono (h : LnAt w F b c p0 p1) (k : ∀ g, F g → G g) : LnAt w G b c p0 p1 := by
  obtain ⟨F0, F1, h0, h1, a, d, e⟩ := h.sts
  exact ⟨⟨F0, F1, h0, h1, fun g hg => ⟨k g (a g hg).1, (a g hg).2⟩, fun g hg => ⟨k g (d g hg).1, (d g hg).2⟩, e⟩, h.cfg, k b h.own⟩
/-- What leaves the line's blocks alone leaves the line alone. -/
theorem LnAt.keep (h : LnAt w F b c p0 p1) (hs : w.heap.size ≤ w'.heap.size) (hk : ∀ g, F g → g < w.heap.size → w'.heap[g]? = w.heap[g]?) : LnAt w' F b c p0 p1 := by
  obtain ⟨F0, F1, h0, h1, a, d, e⟩ := h.sts
  have hb := hk b h.own h.lt
  have hc : ∀ j, w'.cell? ⟨b, j, none⟩ = w.cell? ⟨b, j, none⟩ := fun j => World.cell?_of_block hb
  have hz : ∀ j, w'.frozen? ⟨b, j, none⟩ = w.frozen? ⟨b, j, none⟩ := fun j => World.frozen?_of_block hb
  exact ⟨⟨F0, F1, h0.keep (fun _ _ => hc _) hz (fun g hg hl => hk g (a g hg).1 hl), h1.keep (fun _ _ => hc _) hz (fun g hg hl => hk g (d g hg).1 hl), fun g hg => ⟨(a g hg).1, Nat.lt_of_lt_of_le (a g hg).2 hs⟩, fun g hg => ⟨(d g hg).1, Nat.lt_of_lt_of_le (d g hg).2 hs⟩, e⟩, h.cfg.keep fun _ _ => hc _, h.own⟩
end

/-- The blocks that are new. -/
def New (w : World) : Nat → Prop := fun g => w.heap.size ≤ g
def msgV (m : Msg) : Value := .agg #[.string ⟨m.head.toArray⟩, .string ⟨m.text.toArray⟩, .bool m.clear]
theorem Below.allocN {w W : World} (h : Below w.heap.size w W) (x : Obj) : Below w.heap.size w (W.alloc x) := h.alloc h.size x

theorem isStation_any (n : Int) (w : World) :
    Calls Tryz.prog 33 #[.int .i64 n] w fun e w' => e = .returned (.bool (decide (n = 0 ∨ n = 1))) ∧ w' = w := by
  by_cases h : n = 0
  · subst h
    go_enter Tryz.func33, Tryz.ntmps33
    go_wp2
    go_ret
    exact ⟨rfl, rfl⟩
  · by_cases h1 : n = 1
    · subst h1
      go_enter Tryz.func33, Tryz.ntmps33
      go_wp2
      go_ret
      exact ⟨rfl, rfl⟩
    · have HE : Hid (decide (n = 0 ∨ n = 1) = false) := by simp [Hid, h, h1]
      rw [HE.out]
      go_enter Tryz.func33, Tryz.ntmps33
      go_wp2
      go_ret
      exact ⟨by show Ending.returned (Value.bool (n == 0 || n == 1)) = _; simp [h, h1], rfl⟩

end Go.Proofs.YtlbpjcphhocdkabGreatDoor

namespace Go.Proofs.YtlbpjcphhocdkabGreatDoor
set_option maxRecDepth 1000000
open Go.ChangeShapes Go.WideShapes Go.ChangeAt Go.RowKit Go.Joins

theorem cellsCfg : Tryz.prog.cellsOf 23 = 10 := by kernel_rfl
theorem array10 {α : Type} {cs : Array α} (h : cs.size = 10) : ∃ c0 c1 c2 c3 c4 c5 c6 c7 c8 c9, cs = #[c0, c1, c2, c3, c4, c5, c6, c7, c8, c9] := by
  obtain ⟨l⟩ := cs
  match l, h with
  | [c0, c1, c2, c3, c4, c5, c6, c7, c8, c9], _ => exact ⟨c0, c1, c2, c3, c4, c5, c6, c7, c8, c9, rfl⟩
/-- A number of 64 bits. -/
def I64 (a : Int) : Prop := -9223372036854775808 ≤ a ∧ a ≤ 9223372036854775807
theorem open_i64 {H : Type} {enc : TypeId × Value → H} {W : World} {fuel : Nat} {v : Value} {y : DataW H × List MemPlace}
    (h : DataW.trod enc Tryz.prog W 0 (fun _ => true) true fuel 3 [v] = some y) : ∃ a : Int, v = .int .i64 a ∧ I64 a ∧ y.2 = [] := by
  obtain ⟨a, e, hy, hw⟩ := DataW.trod_int Tryz.underlying3 h
  simp only [List.cons.injEq, and_true] at e
  refine ⟨a, e, ?_, by rw [hy]⟩
  simp only [Lit.wf, Bool.and_eq_true, decide_eq_true_eq] at hw
  exact hw
theorem open_cfg {H : Type} {enc : TypeId × Value → H} {W : World} {base : Nat} {v : Value} {d : DataW H} {p : List MemPlace}
    (hv : Value.okWide Tryz.prog W .any base 23 v) (h : DataW.Trod enc Tryz.prog W 0 (fun _ => true) true 23 v d p) :
    ∃ a0 a1 a2 a3 a4 a5 a6 a7 a8 a9 : Int, v = .agg #[.int .i64 a0, .int .i64 a1, .int .i64 a2, .int .i64 a3, .int .i64 a4, .int .i64 a5, .int .i64 a6, .int .i64 a7, .int .i64 a8, .int .i64 a9] ∧ (I64 a0 ∧ I64 a1 ∧ I64 a2 ∧ I64 a3 ∧ I64 a4 ∧ I64 a5 ∧ I64 a6 ∧ I64 a7 ∧ I64 a8 ∧ I64 a9) := by
  obtain ⟨cs, rfl, hsz⟩ := okWide_struct Tryz.underlying23 hv
  obtain ⟨c0, c1, c2, c3, c4, c5, c6, c7, c8, c9, rfl⟩ := array10 (hsz.trans cellsCfg)
  obtain ⟨fuel, hf⟩ := h
  obtain ⟨xs, n, _, _, _, hlen, hx⟩ := DataW.trod_struct Tryz.underlying23 hf
  have z : ∀ i, i < 10 → ∃ y, xs[i]? = some y := fun i hi => ⟨xs[i]'(by rw [hlen]; exact hi), List.getElem?_eq_getElem _⟩
  have k0 := hx 0 _ rfl
  have k1 := hx 1 _ rfl
  have k2 := hx 2 _ rfl
  have k3 := hx 3 _ rfl
  have k4 := hx 4 _ rfl
  have k5 := hx 5 _ rfl
  have k6 := hx 6 _ rfl
  have k7 := hx 7 _ rfl
  have k8 := hx 8 _ rfl
  have k9 := hx 9 _ rfl
  simp only [Value.cells] at k0 k1 k2 k3 k4 k5 k6 k7 k8 k9
  obtain ⟨y0, e0⟩ := z 0 (by omega)
  rw [e0] at k0
  obtain ⟨a0, rfl, b0, _⟩ := open_i64 k0
  obtain ⟨y1, e1⟩ := z 1 (by omega)
  rw [e1] at k1
  obtain ⟨a1, rfl, b1, _⟩ := open_i64 k1
  obtain ⟨y2, e2⟩ := z 2 (by omega)
  rw [e2] at k2
  obtain ⟨a2, rfl, b2, _⟩ := open_i64 k2
  obtain ⟨y3, e3⟩ := z 3 (by omega)
  rw [e3] at k3
  obtain ⟨a3, rfl, b3, _⟩ := open_i64 k3
  obtain ⟨y4, e4⟩ := z 4 (by omega)
  rw [e4] at k4
  obtain ⟨a4, rfl, b4, _⟩ := open_i64 k4
  obtain ⟨y5, e5⟩ := z 5 (by omega)
  rw [e5] at k5
  obtain ⟨a5, rfl, b5, _⟩ := open_i64 k5
  obtain ⟨y6, e6⟩ := z 6 (by omega)
  rw [e6] at k6
  obtain ⟨a6, rfl, b6, _⟩ := open_i64 k6
  obtain ⟨y7, e7⟩ := z 7 (by omega)
  rw [e7] at k7
  obtain ⟨a7, rfl, b7, _⟩ := open_i64 k7
  obtain ⟨y8, e8⟩ := z 8 (by omega)
  rw [e8] at k8
  obtain ⟨a8, rfl, b8, _⟩ := open_i64 k8
  obtain ⟨y9, e9⟩ := z 9 (by omega)
  rw [e9] at k9
  obtain ⟨a9, rfl, b9, _⟩ := open_i64 k9
  exact ⟨a0, a1, a2, a3, a4, a5, a6, a7, a8, a9, rfl, b0, b1, b2, b3, b4, b5, b6, b7, b8, b9⟩

end Go.Proofs.YtlbpjcphhocdkabGreatDoor
