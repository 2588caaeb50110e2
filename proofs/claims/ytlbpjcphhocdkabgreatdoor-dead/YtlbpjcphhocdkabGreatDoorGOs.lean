/-A script among the arguments, opened; the library's table among the listed variables. -/
import Derived.Test.YtlbpjcphhocdkabGreatDoorGKg2
import Derived.ProofKit
import Derived.OpenShut
import Derived.Lib.LaidTab
import Derived.Stop.LaidErr
namespace Go.Proofs.YtlbpjcphhocdkabGreatDoor
set_option maxRecDepth 1000000
open Go.ChangeShapes Go.WideShapes Go.ChangeAt Go.RowKit Go.Joins

theorem cellsStp : Tryz.prog.cellsOf 80 = 8 := by kernel_rfl
theorem bytesStp : Tryz.prog.bytesOf 80 = 80 := by kernel_rfl
theorem list8 {α : Type} {cs : List α} (h : cs.length = 8) : ∃ c0 c1 c2 c3 c4 c5 c6 c7, cs = [c0, c1, c2, c3, c4, c5, c6, c7] := by
  match cs, h with
  | [c0, c1, c2, c3, c4, c5, c6, c7], _ => exact ⟨c0, c1, c2, c3, c4, c5, c6, c7, rfl⟩
theorem open_str {H : Type} {enc : TypeId × Value → H} {W : World} {fuel : Nat} {v : Value} {y : DataW H × List MemPlace}
    (h : DataW.trod enc Tryz.prog W 0 (fun _ => true) true fuel 9 [v] = some y) : ∃ s : ByteArray, v = .string s ∧ y.1 = .lit (.string s.data.toList) := by
  obtain ⟨s, e, hy, _⟩ := DataW.trod_string Tryz.underlying9 h
  simp only [List.cons.injEq, and_true] at e
  exact ⟨s, e, by rw [hy]⟩
theorem open_bl {H : Type} {enc : TypeId × Value → H} {W : World} {fuel : Nat} {v : Value} {y : DataW H × List MemPlace}
    (h : DataW.trod enc Tryz.prog W 0 (fun _ => true) true fuel 4 [v] = some y) : ∃ b : Bool, v = .bool b := by
  obtain ⟨b, e, hy⟩ := DataW.trod_bool Tryz.underlying4 h
  simp only [List.cons.injEq, and_true] at e
  exact ⟨b, e⟩
/-- One step: its cells, its data. -/
def StpD {H : Type} (o : Stp) (d : DataW H) : Prop := ∃ ys, d = .agg ys ∧ ys[5]? = some (.lit (.string o.s.data.toList)) ∧ ys[6]? = some (.lit (.string o.t.data.toList))
theorem open_stp {H : Type} {enc : TypeId × Value → H} {W : World} {fuel : Nat} {cs : List Value} {y : DataW H × List MemPlace}
    (h : DataW.trod enc Tryz.prog W 0 (fun _ => true) true fuel 80 cs = some y) : ∃ o : Stp, cs = stepCells o ∧ (I64 o.st ∧ I64 o.a ∧ I64 o.b) ∧ StpD o y.1 := by
  obtain ⟨xs, n, _, hy, hlen, hxl, hx⟩ := DataW.trod_struct Tryz.underlying80 h
  obtain ⟨c0, c1, c2, c3, c4, c5, c6, c7, rfl⟩ := list8 (hlen.trans cellsStp)
  have z : ∀ i, i < 8 → ∃ y, xs[i]? = some y := fun i hi => ⟨xs[i]'(by rw [hxl]; exact hi), List.getElem?_eq_getElem _⟩
  have k0 := hx 0 _ rfl
  have k1 := hx 1 _ rfl
  have k2 := hx 2 _ rfl
  have k3 := hx 3 _ rfl
  have k4 := hx 4 _ rfl
  have k5 := hx 5 _ rfl
  have k6 := hx 6 _ rfl
  have k7 := hx 7 _ rfl
  obtain ⟨y0, e0⟩ := z 0 (by omega)
  rw [e0] at k0
  obtain ⟨a0, rfl, b0, _⟩ := open_i64 k0
  obtain ⟨y1, e1⟩ := z 1 (by omega)
  rw [e1] at k1
  obtain ⟨a1, rfl, b1, _⟩ := open_i64 k1
  obtain ⟨y2, e2⟩ := z 2 (by omega)
  rw [e2] at k2
  obtain ⟨a2, rfl, b2, _⟩ := open_i64 k2
  obtain ⟨y3, e3⟩ := z 3 (by omega)
  rw [e3] at k3
  obtain ⟨a3, rfl, b3, _⟩ := open_i64 k3
  obtain ⟨y4, e4⟩ := z 4 (by omega)
  rw [e4] at k4
  obtain ⟨a4, rfl, b4, _⟩ := open_i64 k4
  obtain ⟨y5, e5⟩ := z 5 (by omega)
  rw [e5] at k5
  obtain ⟨s5, rfl, f5⟩ := open_str k5
  obtain ⟨y6, e6⟩ := z 6 (by omega)
  rw [e6] at k6
  obtain ⟨s6, rfl, f6⟩ := open_str k6
  obtain ⟨y7, e7⟩ := z 7 (by omega)
  rw [e7] at k7
  obtain ⟨x7, rfl⟩ := open_bl k7
  refine ⟨⟨a0, a1, a2, a3, a4, s5, s6, x7⟩, rfl, ⟨b1, b2, b3⟩, xs.map (·.1), by rw [hy], ?_, ?_⟩
  · rw [List.getElem?_map, e5]; simp [f5]
  · rw [List.getElem?_map, e6]; simp [f6]

/-- The data of a script. -/
def ScrD {H : Type} (l : List Stp) (d : DataW H) : Prop := l = [] ∨ ∃ ds rest, d = .slice ds rest ∧ ds.length = l.length ∧ ∀ (i : Nat) o, l[i]? = some o → ∃ y, ds[i]? = some y ∧ StpD o y
theorem open_script {H : Type} {enc : TypeId × Value → H} {W : World} {base : Nat} {v : Value} {d : DataW H} {p : List MemPlace}
    (hv : Value.okWide Tryz.prog W .any base 45 v) (h : DataW.Trod enc Tryz.prog W 0 (fun _ => true) true 45 v d p) :
    ∃ (a : Option Addr) (l : List Stp) (cap : Nat), v = .slice a l.length cap ∧ ScrAt W a l ∧ (∀ o ∈ l, I64 o.st ∧ I64 o.a ∧ I64 o.b) ∧ ScrD l d := by
  obtain ⟨a', len', cap', rfl⟩ := okWide_slice Tryz.underlying45 hv
  obtain ⟨fuel, hf⟩ := h
  rcases DataW.trod_slice Tryz.underlying45 hf with ⟨hcs, hx⟩ | ⟨a, len, cap, elems, rest, n, _, hcs, hx, _, _, _, hel, hcell, _⟩
  · simp only [Value.cells, List.cons.injEq, and_true, Value.slice.injEq] at hcs
    obtain ⟨rfl, rfl, rfl⟩ := hcs
    exact ⟨none, [], 0, rfl, Or.inl rfl, (fun o ho => by cases ho), Or.inl rfl⟩
  · simp only [Value.cells, List.cons.injEq, and_true, Value.slice.injEq] at hcs
    obtain ⟨rfl, rfl, rfl⟩ := hcs
    rw [cellsStp] at hcell
    have key : ∀ i, ∃ o : Stp, i < len' → (∀ j c, (stepCells o)[j]? = some c → W.cell? ((a.add (i * 8)).add j) = some c) ∧ (I64 o.st ∧ I64 o.a ∧ I64 o.b) ∧ ∃ y, elems[i]? = some y ∧ StpD o y.1 := by
      intro i
      by_cases hi : i < len'
      · have hc := hcell i hi
        have he : elems[i]? = some (elems[i]'(by omega)) := List.getElem?_eq_getElem _
        rw [he] at hc
        obtain ⟨cs, h1, h2⟩ := Option.bind_eq_some_iff.1 hc
        obtain ⟨o, rfl, hb, hd⟩ := open_stp h2
        obtain ⟨_, _, h3⟩ := World.cells?_some h1
        refine ⟨o, fun _ => ⟨fun j c hj => ?_, hb, _, he, hd⟩⟩
        have hj8 : j < 8 := by
          rcases Nat.lt_or_ge j 8 with z | z
          · exact z
          · rw [List.getElem?_eq_none (by simp [stepCells]; omega)] at hj; cases hj
        exact (h3 j hj8).trans hj
      · exact ⟨⟨0, 0, 0, 0, 0, ByteArray.empty, ByteArray.empty, false⟩, fun h => absurd h hi⟩
    refine ⟨some a, (List.range len').map fun i => Classical.choose (key i), cap', by simp, ?_, ?_, ?_⟩
    · by_cases h0 : len' = 0
      · left; subst h0; rfl
      · right
        have k0 := (Classical.choose_spec (key 0) (by omega)).1 0 _ rfl
        obtain ⟨b, off, spot⟩ := a
        have hspot : spot = none := by simpa [Addr.add] using World.cell?_spot k0
        subst hspot
        refine ⟨b, off, rfl, ?_, ?_⟩
        · exact World.block_lt_of_cell? W _ k0
        · intro i o hio j c hj
          have hi : i < len' := by
            rcases Nat.lt_or_ge i len' with z | z
            · exact z
            · rw [List.getElem?_eq_none (by simp; omega)] at hio; cases hio
          rw [List.getElem?_map, List.getElem?_range hi] at hio
          simp only [Option.map_some, Option.some.injEq] at hio
          subst hio
          have := (Classical.choose_spec (key i) hi).1 j c hj
          rw [Go.WideShapes.add_plain, Go.WideShapes.add_plain] at this
          exact this
    · intro o ho
      simp only [List.mem_map, List.mem_range] at ho
      obtain ⟨i, hi, rfl⟩ := ho
      exact (Classical.choose_spec (key i) hi).2.1
    · right
      simp only [Prod.mk.injEq] at hx
      refine ⟨_, _, hx.1, by simp [hel], ?_⟩
      intro i o hio
      have hi : i < len' := by
        rcases Nat.lt_or_ge i len' with z | z
        · exact z
        · rw [List.getElem?_eq_none (by simp; omega)] at hio; cases hio
      rw [List.getElem?_map, List.getElem?_range hi] at hio
      simp only [Option.map_some, Option.some.injEq] at hio
      subst hio
      obtain ⟨y, hy, hd⟩ := (Classical.choose_spec (key i) hi).2.2
      exact ⟨y.1, by rw [List.getElem?_map, hy]; rfl, hd⟩

theorem weights_all {H : Type} {e : TypeId} {ds : List (DataW H)} {i : Nat} {y : DataW H} (h : ds[i]? = some y) {n : Nat} (hn : n ∈ DataW.weights Tryz.prog e y) : n ∈ DataW.weightsAll Tryz.prog e ds := by
  induction ds generalizing i with
  | nil => simp at h
  | cons x ds ih =>
    simp only [DataW.weightsAll, List.mem_append]
    cases i with
    | zero => simp only [List.getElem?_cons_zero, Option.some.injEq] at h; subst h; exact Or.inl hn
    | succ i => exact Or.inr (ih (by simpa using h))
theorem script_reach {H : Type} {ts : List TypeId} {ds : List (DataW H)} {l : List Stp} {d : DataW H} {j : Nat}
    (hsz : (DataW.weightsEach Tryz.prog ts ds).all (· ≤ reachBytes) = true) (ht : ts[j]? = some 45) (hd : ds[j]? = some d) (hp : ScrD l d) : l.length ≤ 2000000000000 ∧ ∀ o ∈ l, o.s.size ≤ 140737488351300 ∧ o.t.size ≤ 140737488351300 := by
  have hall : ∀ n ∈ DataW.weights Tryz.prog 45 d, n ≤ 140737488351232 := by
    intro n hn
    have := List.all_eq_true.1 hsz _ (DataW.weights_mem_each ht hd n hn)
    exact of_decide_eq_true this
  rcases hp with rfl | ⟨es, rest, rfl, hl, he⟩
  · exact ⟨Nat.zero_le _, (fun o ho => by cases ho)⟩
  · simp only [DataW.weights, Tryz.underlying45, bytesStp, List.mem_cons, List.mem_append] at hall
    refine ⟨?_, ?_⟩
    · have := hall _ (Or.inl rfl)
      omega
    · intro o ho
      obtain ⟨i, hi, hio⟩ := List.getElem_of_mem ho
      obtain ⟨y, hy, ys, rfl, h5, h6⟩ := he i o (by rw [List.getElem?_eq_getElem hi, hio])
      have hw : ∀ k (s : ByteArray), (k = 5 ∨ k = 6) → ys[k]? = some (.lit (.string s.data.toList)) → s.size ≤ 140737488351300 := by
        intro k s hk hs
        have hm : s.data.toList.length ∈ DataW.weights Tryz.prog 80 (.agg ys : DataW H) := by
          simp only [DataW.weights, Tryz.underlying80]
          refine DataW.weights_mem_each (j := k) (t := 9) ?_ hs _ (by simp [DataW.weights])
          rcases hk with rfl | rfl <;> rfl
        have := hall _ (Or.inr (Or.inl (weights_all hy hm)))
        have e : s.data.toList.length = s.size := by rw [Array.length_toList]; rfl
        omega
      exact ⟨hw 5 o.s (Or.inl rfl) h5, hw 6 o.t (Or.inr rfl) h6⟩

/-- The table, of what the row lists. -/
def laid3 : List (String × DataW Unit) := [("math/bits.deBruijn32tab", Rows.laid_math_bits_deBruijn32tab), ("math/bits.deBruijn64tab", Rows.laid_math_bits_deBruijn64tab), ("internal/strconv.uint64pow10", Rows.laid_internal_strconv_uint64pow10)]
theorem own : ownKnob Tryz.prog.godebug = none := by kernel_rfl
theorem laidOut : laidOutB Tryz.prog = true := by kernel_rfl
end Go.Proofs.YtlbpjcphhocdkabGreatDoor
