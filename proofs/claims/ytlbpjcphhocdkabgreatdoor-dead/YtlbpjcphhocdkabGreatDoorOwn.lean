/- Laws of my own on byte slices that a call makes: a literal, append of a string, append of a byte, the conversion to a string. -/
import Derived.Test.YtlbpjcphhocdkabGreatDoorRows
import Derived.WalkKit
import Derived.WalkSpells
import Derived.WalkLawsBesides
import Derived.Lib.AppendStr
import Derived.Laws.BytesArg
namespace Go.Proofs.YtlbpjcphhocdkabGreatDoor
open Go.RowKit

theorem hide {p : Prop} (h : p) : Hid p := h

/-- One call behind another: each makes new memory alone. -/
theorem below_step {w a b : World} (h : Below w.heap.size w a) (k : Below a.heap.size a b) : Below w.heap.size w b := h.trans (k.mono h.size)

def bcells (l : List UInt8) : List Value := l.map fun b => Value.int .u8 b.toNat

theorem bcells_length (l : List UInt8) : (bcells l).length = l.length := by simp [bcells]
theorem bcells_append (l r : List UInt8) : bcells (l ++ r) = bcells l ++ bcells r := by simp [bcells]
theorem strCells_eq (s : ByteArray) : Go.Lib.strCells s = bcells s.data.toList := rfl

/-- The slice value v, among the blocks from B on, holds just the bytes l. -/
def OwnB (w : World) (B : Nat) (v : Value) (l : List UInt8) : Prop := w.ownsRow B 5 1 v l.length (bcells l)

theorem Tryz.infoStr : (Tryz.prog.info? 9).map (fun i => (i.zero, i.size, i.bytes)) = some (some (.string ⟨#[]⟩), 1, 16) := by kernel_rfl
theorem Tryz.sizeStr : (Tryz.prog.info? 9).map (·.size) = some 1 := by kernel_rfl
theorem Tryz.infoU8 : (Tryz.prog.info? 5).map (fun i => (i.zero, i.size, i.bytes)) = some (some (.int .u8 0), 1, 1) := by kernel_rfl

theorem OwnB.alloc {w : World} {B : Nat} {v : Value} {l : List UInt8} (h : OwnB w B v l) (o : Obj) : OwnB (w.alloc o) B v l := World.ownsRow.alloc h o

theorem OwnB.grown {w w' : World} {B : Nat} {v v2 : Value} {l : List UInt8} (h : OwnB w B v l) (hg : w.grownBy w' v2.ownBlock) (hne : ∀ k, v.ownBlock = some k → v2.ownBlock ≠ some k) : OwnB w' B v l := by
  obtain ⟨h1, h2⟩ := h
  refine ⟨h1, ?_⟩
  rcases h2 with h2 | ⟨g, cap, cur, hv, hb, hh, r⟩
  · exact Or.inl h2
  · refine Or.inr ⟨g, cap, cur, hv, hb, ?_, r⟩
    have hlt : g < w.heap.size := by
      rcases Nat.lt_or_ge g w.heap.size with h | h
      · exact h
      · rw [Array.getElem?_eq_none h] at hh; cases hh
    rw [hg.block g hlt (fun e => hne g (by rw [hv]; rfl) e.symm)]
    exact hh

theorem OwnB.below {w w' : World} {B : Nat} {v : Value} {l : List UInt8} (h : OwnB w B v l) (hb : Below w.heap.size w w') (_ : B ≤ w.heap.size) : OwnB w' B v l := by
  obtain ⟨h1, h2⟩ := h
  refine ⟨h1, ?_⟩
  rcases h2 with h2 | ⟨g, cap, cur, hv, hB, hh, r⟩
  · exact Or.inl h2
  · refine Or.inr ⟨g, cap, cur, hv, hB, ?_, r⟩
    rw [hb.block g (lt_of_block hh)]
    exact hh

/-- A literal. -/
theorem ownB_lit (w : World) (B : Nat) (cs : Array Value) (l : List UInt8) (hc : cs.toList = bcells l) (hB : B ≤ w.heap.size) (hl : l.length ≤ 1000) :
    OwnB (w.alloc (.cells cs 5)) B (.slice (some ⟨w.heap.size, 0, none⟩) l.length l.length) l := by
  have hsz : cs.size = l.length * 1 := by rw [← Array.length_toList, hc, bcells_length, Nat.mul_one]
  have h := World.ownsRow_lit (base := B) (e := 5) (size := 1) w cs l.length hB (by unfold maxLen; omega) hsz
  unfold OwnB
  rw [← hc]
  exact h

section
variable {ops : Array Oper} {rest : List Oper} {o : Oper} {a : Act} {Q : Exit → Act → World → Prop}

theorem app_str (W : World) (hgd : o.guard = none) (sl x : Operand)
    (ho : o.op = .call { callee := .builtin .append, args := #[sl, x], argTypes := #[110, 9] })
    (B : Nat) (v : Value) (l : List UInt8) (s : ByteArray) (hs : a.eval sl = v) (hx : a.eval x = .string s) (hown : OwnB W B v l)
    (hlen : l.length + s.size ≤ 140737488355328) (w0 : World) (hbel : Below B w0 W) (hB : B ≤ W.heap.size)
    (h : ∀ v' W', OwnB W' B v' (l ++ s.data.toList) → Below B w0 W' → B ≤ W'.heap.size → wpList Tryz.prog ops Q rest (a.put o.dst v') W') :
    wpList Tryz.prog ops Q (o :: rest) a W := by
  obtain ⟨i0, hi, hz0, hz1, hz2⟩ := info_parts Tryz.infoU8
  refine Go.Lib.wpList_append_own_string W hgd sl x 110 9 ho B 5 i0 Tryz.underlying110 Tryz.underlying9 hi hz0 hz1 hz2 v l.length (bcells l) hs hown s hx (by unfold maxLen; omega) hlen hB ?_
  intro v' W' ho' hg _
  refine h v' W' ?_ (hbel.grown hg hB (fun k hk => (World.ownsRow.lt hown k hk).1)) (by have := hg.size; omega)
  unfold OwnB
  rw [bcells_append, List.length_append, ← strCells_eq]
  have e : s.data.toList.length = s.size := by simp
  rw [e]
  exact ho'

theorem app_one (W : World) (c : UInt8) (n : Int) (hn : n = (c.toNat : Int)) (hgd : o.guard = none) (sl x : Operand)
    (ho : o.op = .call { callee := .builtin .append, args := #[sl, x], argTypes := #[110, 110] })
    (B : Nat) (v : Value) (l : List UInt8) (g cp : Nat) (hs : a.eval sl = v) (hx : a.eval x = .slice (some ⟨g, 0, none⟩) 1 cp) (hg0 : g = W.heap.size) (hown : OwnB W B v l)
    (hlen : l.length + 1 ≤ 140737488355328) (w0 : World) (hbel : Below B w0 W) (hB : B ≤ W.heap.size)
    (h : ∀ v' W', OwnB W' B v' (l ++ [c]) → Below B w0 W' → B ≤ W'.heap.size → wpList Tryz.prog ops Q rest (a.put o.dst v') W') :
    wpList Tryz.prog ops Q (o :: rest) a (W.alloc (.cells #[.int .u8 n] 5)) := by
  obtain ⟨i0, hi, hz0, hz1, hz2⟩ := info_parts Tryz.infoU8
  subst hn hg0
  refine wpList_append_own _ hgd sl x 110 ho B 5 i0 (.int .u8 0) 1 1 Tryz.underlying110 hi hz0 hz1 hz2 rfl (by decide) v l.length (bcells l) hs (hown.alloc _) ⟨W.heap.size, 0, none⟩ 1 cp [.int .u8 c.toNat] hx rfl
    (cell_one_new _ _ _) (by intro u hu; simp at hu; subst hu; rfl) (by unfold maxLen; omega) (by omega) (by simp; omega) ?_
  intro v' W' ho' hg _
  have hlt : ∀ k, v.ownBlock = some k → B ≤ k := fun k hk => (World.ownsRow.lt hown k hk).1
  refine h v' W' ?_ ((hbel.alloc hB _).grown hg (by simp; omega) hlt) (by have := hg.size; simp at this; omega)
  unfold OwnB
  rw [bcells_append, List.length_append]
  exact ho'
end

/-- 'string(b)' of such a slice. -/
theorem conv_own (W : World) (B : Nat) (v : Value) (l : List UInt8) (h : OwnB W B v l) :
    (convert 110 9 v).run Tryz.prog W = .ok (.string ⟨l.toArray⟩) W := by
  rcases h.2 with ⟨rfl, h0⟩ | ⟨g, cap, cur, rfl, hb, hh, r⟩
  · have : l = [] := List.eq_nil_of_length_eq_zero h0
    subst this
    have := run_convert_bytes_nil (P := Tryz.prog) W 110 5 Tryz.underlying110 Tryz.underlying5 0 0 9 Tryz.underlying9
    rw [this]; rfl
  · refine run_convert_bytes_back W 110 9 5 ⟨g, 0, none⟩ cap l Tryz.underlying110 Tryz.underlying5 Tryz.underlying9 ?_
    intro j hj
    have := World.ownsRow.cellAt h j (by simpa using hj)
    have e : (⟨g, 0, none⟩ : Addr).add j = ⟨g, j, none⟩ := by simp [Addr.add_lit]
    rw [e, this]
    simp [bcells, List.getElem?_eq_getElem hj]

/-- 'string([]byte{..})' of a literal. -/
theorem conv_lit1 (w : World) (c : Int) (g : Nat) (hg : g = w.heap.size) :
    (convert 110 9 (.slice (some ⟨g, 0, none⟩) 1 1)).run Tryz.prog (w.alloc (.cells #[.int .u8 c] 5)) = .ok (.string (strOfNums [c])) (w.alloc (.cells #[.int .u8 c] 5)) := by
  subst hg
  refine run_convert_bytes_arg _ 110 5 Tryz.underlying110 Tryz.underlying5 w.heap.size 0 1 1 [c] rfl ?_ 9 Tryz.underlying9
  intro i hi
  obtain rfl : i = 0 := by omega
  simp

theorem conv_lit2 (w : World) (c d : Int) (g : Nat) (hg : g = w.heap.size) :
    (convert 110 9 (.slice (some ⟨g, 0, none⟩) 2 2)).run Tryz.prog (w.alloc (.cells #[.int .u8 c, .int .u8 d] 5)) = .ok (.string (strOfNums [c, d])) (w.alloc (.cells #[.int .u8 c, .int .u8 d] 5)) := by
  subst hg
  refine run_convert_bytes_arg _ 110 5 Tryz.underlying110 Tryz.underlying5 w.heap.size 0 2 2 [c, d] rfl ?_ 9 Tryz.underlying9
  intro i hi
  match i, hi with
  | 0, _ => simp
  | 1, _ => simp

end Go.Proofs.YtlbpjcphhocdkabGreatDoor
