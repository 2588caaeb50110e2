/- Laws of my own on the byte slice that '[]byte(s)' makes: its row bears the mark of a conversion behind its last cell. -/
import Derived.Test.YtlbpjcphhocdkaaOwn
import Derived.Lib.ConvBytes
import Derived.Lib.FrozenHead
namespace Go.Proofs.Ytlbpjcphhocdkaa
open Go.RowKit

/-- The slice value v, among the blocks from B on, is a conversion's row and holds just the bytes l. -/
def CnvB (w : World) (B : Nat) (v : Value) (l : List UInt8) : Prop :=
  ∃ g cap cur, v = .slice (some ⟨g, 0, none⟩) l.length cap ∧ B ≤ g ∧ w.heap[g]? = some (.cells cur 5 (cur.size, cur.size + 1)) ∧ cur.size = cap ∧ l.length ≤ cap ∧ cur.toList.take l.length = bcells l

theorem cnv_new (w : World) (B : Nat) (s : ByteArray) (hB : B ≤ w.heap.size) :
    CnvB (Go.Lib.bytesWorld w 5 s) B (.slice (some ⟨w.heap.size, 0, none⟩) s.size (grownCap w s.size 0 5)) s.data.toList := by
  have hge := grownCap_ge w s.size 0 5
  have hl : s.data.toList.length = s.size := by simp
  have hcs : (Go.Lib.bytesCells w 5 s).size = grownCap w s.size 0 5 := by
    unfold Go.Lib.bytesCells
    have : s.data.size = s.size := rfl
    simp [this]
    omega
  refine ⟨w.heap.size, _, Go.Lib.bytesCells w 5 s, by rw [hl], hB, Go.Lib.bytesWorld_at_new w 5 s, hcs, by omega, ?_⟩
  rw [hl]
  unfold Go.Lib.bytesCells bcells
  have : (s.data.toList.map fun b => Value.int .u8 (b.toNat : Int)).length = s.size := by simp
  simp only [Array.toList_append, Array.toList_map]
  rw [← this]
  exact List.take_left

theorem cnv_run (w : World) (s : ByteArray) : (convert 9 55 (.string s)).run Try.prog w = .ok (.slice (some ⟨w.heap.size, 0, none⟩) s.size (grownCap w s.size 0 5)) (Go.Lib.bytesWorld w 5 s) :=
  Go.Lib.run_convert_string_bytes (P := Try.prog) w 9 55 5 s Try.underlying9 Try.underlying55 Try.underlying5

theorem cnv_below (w : World) (s : ByteArray) : Below w.heap.size w (Go.Lib.bytesWorld w 5 s) :=
  ⟨rfl, rfl, rfl, by rw [Go.Lib.bytesWorld_size]; omega, fun j hj => Go.Lib.bytesWorld_at_old w 5 s j hj⟩

theorem CnvB.cell {w : World} {B : Nat} {v : Value} {l : List UInt8} (h : CnvB w B v l) :
    ∃ g cap, v = .slice (some ⟨g, 0, none⟩) l.length cap ∧ B ≤ g ∧ g < w.heap.size ∧ ∀ j (hj : j < l.length), w.cell? ⟨g, j, none⟩ = some (.int .u8 (l[j].toNat : Int)) ∧ w.frozen? ⟨g, j, none⟩ = false := by
  obtain ⟨g, cap, cur, rfl, hB, hg, hc, hl, ht⟩ := h
  refine ⟨g, cap, rfl, hB, lt_of_block hg, fun j hj => ⟨?_, ?_⟩⟩
  · rw [cell_of_row _ _ _ _ _ _ hg]
    have : (cur.toList.take l.length)[j]? = (bcells l)[j]? := by rw [ht]
    rw [List.getElem?_take_of_lt hj] at this
    simp [bcells, List.getElem?_eq_getElem hj] at this
    simpa using this
  · simp only [World.frozen?, hg, Bool.and_eq_false_iff, decide_eq_false_iff_not]
    left
    omega

theorem conv_cells (W : World) (g cap : Nat) (l : List UInt8) (hc : ∀ j (hj : j < l.length), W.cell? ⟨g, j, none⟩ = some (.int .u8 (l[j].toNat : Int))) :
    (convert 55 9 (.slice (some ⟨g, 0, none⟩) l.length cap)).run Try.prog W = .ok (.string ⟨l.toArray⟩) W := by
  refine run_convert_bytes_back W 55 9 5 ⟨g, 0, none⟩ cap l Try.underlying55 Try.underlying5 Try.underlying9 ?_
  intro j hj
  have e : (⟨g, 0, none⟩ : Addr).add j = ⟨g, j, none⟩ := by simp [Addr.add_lit]
  rw [e]
  exact hc j hj

section
variable {ops : Array Oper} {rest : List Oper} {o : Oper} {a : Act} {Q : Exit → Act → World → Prop}

/-- One byte behind it: what comes out is as a string those bytes and this one. -/
theorem app_cnv (W : World) (c : UInt8) (n : Int) (hn : n = (c.toNat : Int)) (hgd : o.guard = none) (sl x : Operand)
    (ho : o.op = .call { callee := .builtin .append, args := #[sl, x], argTypes := #[55, 55] })
    (B : Nat) (v : Value) (l : List UInt8) (g cp : Nat) (hs : a.eval sl = v) (hx : a.eval x = .slice (some ⟨g, 0, none⟩) 1 cp) (hg0 : g = W.heap.size) (hown : CnvB W B v l)
    (hlen : l.length + 1 ≤ 140737488355328) (w0 : World) (hbel : Below B w0 W) (hB : B ≤ W.heap.size)
    (h : ∀ v' W', (convert 55 9 v').run Try.prog W' = .ok (.string ⟨(l ++ [c]).toArray⟩) W' → Below B w0 W' → wpList Try.prog ops Q rest (a.put o.dst v') W') :
    wpList Try.prog ops Q (o :: rest) a (W.alloc (.cells #[.int .u8 n] 5)) := by
  obtain ⟨i0, hi, hz0, hz1, hz2⟩ := info_parts Try.infoU8
  subst hn hg0
  obtain ⟨g, cap, cur, rfl, hBg, hg, hc, hl, ht⟩ := hown
  have hglt := lt_of_block hg
  have hg1 : (W.alloc (.cells #[.int .u8 (c.toNat : Int)] 5)).heap[g]? = some (.cells cur 5 (cur.size, cur.size + 1)) := (Below.heap_alloc _ _ _ hglt).trans hg
  have hnew : ∀ j u, ([Value.int .u8 (c.toNat : Int)])[j]? = some u → (W.alloc (.cells #[.int .u8 (c.toNat : Int)] 5)).cell? ((⟨W.heap.size, 0, none⟩ : Addr).add j) = some u := cell_one_new _ _ _
  have hbel1 : Below B w0 (W.alloc (.cells #[.int .u8 (c.toNat : Int)] 5)) := hbel.alloc hB _
  generalize hW1 : W.alloc (.cells #[.int .u8 (c.toNat : Int)] 5) = W1 at *
  refine wpList_plain hgd fun K hK => ?_
  have key : ∃ v' W', (Builtin.append_ #[55, 55] o.type #[.slice (some ⟨g, 0, none⟩) l.length cap, .slice (some ⟨W.heap.size, 0, none⟩) 1 cp]).run Try.prog W1 = .ok v' W' ∧ (convert 55 9 v').run Try.prog W' = .ok (.string ⟨(l ++ [c]).toArray⟩) W' ∧ Below B w0 W' := by
    by_cases hroom : l.length + 1 ≤ cap
    · have hi1 : l.length < cur.size := by omega
      have hcell : W1.cell? ⟨g, l.length, none⟩ = some cur[l.length] := by simp [World.cell?, hg1, hi1]
      have hfro : W1.frozen? ⟨g, l.length, none⟩ = false := by
        simp only [World.frozen?, hg1, Bool.and_eq_false_iff, decide_eq_false_iff_not]
        left; omega
      have hst : (store ⟨g, l.length, none⟩ (.int .u8 (c.toNat : Int))).run Try.prog W1 = .ok () (W1.setCell ⟨g, l.length, none⟩ (.int .u8 (c.toNat : Int))) := by
        rw [run_store Try.prog W1 _ _ _ (by rfl), hcell]
        simp [hfro]
      have hss : (storeCells ⟨g, l.length, none⟩ [.int .u8 (c.toNat : Int)] 0).run Try.prog W1 = .ok () (W1.setCell ⟨g, l.length, none⟩ (.int .u8 (c.toNat : Int))) := by
        have e : (⟨g, l.length, none⟩ : Addr).add 0 = ⟨g, l.length, none⟩ := by simp [Addr.add_lit]
        simp only [storeCells, Sem.run_bind, e, hst, Result.andThen_ok]
        rfl
      have hf := run_firstCells_some (P := Try.prog) W1 i0.size 1 ⟨W.heap.size, 0, none⟩ 1 cp [.int .u8 (c.toNat : Int)] (by rw [hz1]; rfl) hnew
      have hr : (Builtin.append_ #[55, 55] o.type #[.slice (some ⟨g, 0, none⟩) l.length cap, .slice (some ⟨W.heap.size, 0, none⟩) 1 cp]).run Try.prog W1 = .ok (.slice (some ⟨g, 0, none⟩) (l.length + 1) cap) (W1.setCell ⟨g, l.length, none⟩ (.int .u8 (c.toNat : Int))) := by
        rw [hz1] at hf
        simp [Builtin.append_, run_underlying Try.underlying55, sizeOf, typeInfo, hi, hz1, Builtin.lenOf, hroom, hf, Addr.add_lit, hss]
      refine ⟨_, _, hr, ?_, hbel1.setCell hBg _⟩
      have hb2 : (W1.setCell ⟨g, l.length, none⟩ (.int .u8 (c.toNat : Int))).heap[g]? = some (.cells (cur.setIfInBounds l.length (.int .u8 (c.toNat : Int))) 5 (cur.size, cur.size + 1)) := by
        simp [World.setCell, Array.getElem?_modify, hg1]
      have hlen2 : l.length + 1 = (l ++ [c]).length := by simp
      rw [hlen2]
      refine conv_cells _ g cap (l ++ [c]) fun j hj => ?_
      rw [cell_of_row _ _ _ _ _ _ hb2]
      by_cases hjl : j < l.length
      · have : (cur.toList.take l.length)[j]? = (bcells l)[j]? := by rw [ht]
        rw [List.getElem?_take_of_lt hjl] at this
        simp [bcells, List.getElem?_eq_getElem hjl] at this
        rw [List.getElem_append_left hjl, Array.getElem?_setIfInBounds_ne (by omega)]
        simpa using this
      · have hje : j = l.length := by simp at hj; omega
        subst hje
        simp [hi1]
    · have holds : ∀ j u, (bcells l)[j]? = some u → W1.cell? ((⟨g, 0, none⟩ : Addr).add j) = some u := by
        intro j u hu
        have e : (⟨g, 0, none⟩ : Addr).add j = ⟨g, j, none⟩ := by simp [Addr.add_lit]
        rw [e, cell_of_row _ _ _ _ _ _ hg1]
        rw [← ht, List.getElem?_take] at hu
        split at hu
        · simpa using hu
        · cases hu
      have hr := run_append_grow (P := Try.prog) W1 55 o.type 5 i0 (.int .u8 0) Try.underlying55 hi hz0 ⟨g, 0, none⟩ l.length cap (bcells l) (by rw [hz1, bcells_length]; omega) holds ⟨W.heap.size, 0, none⟩ 1 cp [.int .u8 (c.toNat : Int)] (by rw [hz1]; rfl) hnew (by omega) (by omega) (by rw [hz2]; exact growslice_fits (by omega) (by omega))
      refine ⟨_, _, hr, ?_, ?_⟩
      · have hlen2 : l.length + 1 = (l ++ [c]).length := by simp
        have hnb := heap_alloc_new W1.drew (.cells ((bcells l).toArray ++ ([Value.int .u8 (c.toNat : Int)]).toArray ++ Builtin.zeroCells (Value.int .u8 0).cells (grownCap W1 (l.length + 1) cap 5 - (l.length + 1))) 5)
        have hsz : W1.drew.heap.size = W1.heap.size := rfl
        rw [hsz] at hnb
        have hcv := conv_cells _ W1.heap.size (grownCap W1 (l.length + 1) cap 5) (l ++ [c]) (fun j hj => by
          rw [cell_of_row _ _ _ _ _ _ hnb]
          have hbc : (bcells l).toArray ++ ([Value.int .u8 (c.toNat : Int)]).toArray = (bcells (l ++ [c])).toArray := by rw [bcells_append]; simp [bcells]
          rw [hbc, Array.getElem?_append_left (by simpa [bcells_length] using hj)]
          rw [List.getElem?_toArray]
          unfold bcells
          rw [List.getElem?_map, List.getElem?_eq_getElem hj]
          rfl)
        rw [← hlen2] at hcv
        exact hcv
      · have hB1 : B ≤ W1.heap.size := Nat.le_trans hBg (Nat.le_of_lt (lt_of_block hg1))
        have hd : Below B w0 W1.drew := ⟨hbel1.os, hbel1.tape, hbel1.output, hbel1.size, hbel1.block⟩
        exact hd.alloc hB1 _
  obtain ⟨v', W', hr, hcv, hb⟩ := key
  unfold Oper.wp execOp
  simp only [ho, resolve, invoke, builtin, Sem.run_bind, Sem.run_pure, Result.andThen_ok, List.map_toArray, List.map_cons, List.map_nil, hs, hx, hr]
  exact hK _ _ (h v' W' hcv hb)
end
end Go.Proofs.Ytlbpjcphhocdkaa
