/- A configuration among the arguments, opened: ten numbers. -/
import Derived.Test.YtlbpjcphhocdkaaOwn
import Derived.ProofKit
import Derived.OpenShut
import Derived.Lib.SmallJoins
namespace Go.Proofs.Ytlbpjcphhocdkaa
set_option maxRecDepth 1000000
open Go.ChangeShapes Go.WideShapes Go.ChangeAt Go.RowKit Go.Joins

theorem cellsCfg : Try.prog.cellsOf 42 = 10 := by kernel_rfl
theorem array10 {α : Type} {cs : Array α} (h : cs.size = 10) : ∃ c0 c1 c2 c3 c4 c5 c6 c7 c8 c9, cs = #[c0, c1, c2, c3, c4, c5, c6, c7, c8, c9] := by
  obtain ⟨l⟩ := cs
  match l, h with
  | [c0, c1, c2, c3, c4, c5, c6, c7, c8, c9], _ => exact ⟨c0, c1, c2, c3, c4, c5, c6, c7, c8, c9, rfl⟩
/-- A number of 64 bits. -/
def I64 (a : Int) : Prop := -9223372036854775808 ≤ a ∧ a ≤ 9223372036854775807
theorem open_i64 {H : Type} {enc : TypeId × Value → H} {W : World} {fuel : Nat} {v : Value} {y : DataW H × List MemPlace}
    (h : DataW.trod enc Try.prog W 0 (fun _ => true) true fuel 3 [v] = some y) : ∃ a : Int, v = .int .i64 a ∧ I64 a ∧ y.2 = [] := by
  obtain ⟨a, e, hy, hw⟩ := DataW.trod_int Try.underlying3 h
  simp only [List.cons.injEq, and_true] at e
  refine ⟨a, e, ?_, by rw [hy]⟩
  simp only [Lit.wf, Bool.and_eq_true, decide_eq_true_eq] at hw
  exact hw
theorem open_cfg {H : Type} {enc : TypeId × Value → H} {W : World} {base : Nat} {v : Value} {d : DataW H} {p : List MemPlace}
    (hv : Value.okWide Try.prog W .any base 42 v) (h : DataW.Trod enc Try.prog W 0 (fun _ => true) true 42 v d p) :
    ∃ a0 a1 a2 a3 a4 a5 a6 a7 a8 a9 : Int, v = .agg #[.int .i64 a0, .int .i64 a1, .int .i64 a2, .int .i64 a3, .int .i64 a4, .int .i64 a5, .int .i64 a6, .int .i64 a7, .int .i64 a8, .int .i64 a9] ∧ (I64 a0 ∧ I64 a1 ∧ I64 a2 ∧ I64 a3 ∧ I64 a4 ∧ I64 a5 ∧ I64 a6 ∧ I64 a7 ∧ I64 a8 ∧ I64 a9) := by
  obtain ⟨cs, rfl, hsz⟩ := okWide_struct Try.underlying42 hv
  obtain ⟨c0, c1, c2, c3, c4, c5, c6, c7, c8, c9, rfl⟩ := array10 (hsz.trans cellsCfg)
  obtain ⟨fuel, hf⟩ := h
  obtain ⟨xs, n, _, _, _, hlen, hx⟩ := DataW.trod_struct Try.underlying42 hf
  have z : ∀ i, i < 10 → ∃ y, xs[i]? = some y := fun i hi => ⟨xs[i]'(by rw [hlen]; exact hi), List.getElem?_eq_getElem _⟩
  have k0 := hx 0 _ rfl
  have k1 := hx 1 _ rfl
  have k2 := hx 2 _ rfl
  have k3 := hx 3 _ rfl
  have k4 := hx 4 _ rfl
  have k5 := hx 5 _ rfl
  have k6 := hx 6 _ rfl
  have k7 := hx 7 _ rfl
  have k8 := hx 8 _ rfl
  have k9 := hx 9 _ rfl
  simp only [Value.cells] at k0 k1 k2 k3 k4 k5 k6 k7 k8 k9
  obtain ⟨y0, e0⟩ := z 0 (by omega)
  rw [e0] at k0
  obtain ⟨a0, rfl, b0, _⟩ := open_i64 k0
  obtain ⟨y1, e1⟩ := z 1 (by omega)
  rw [e1] at k1
  obtain ⟨a1, rfl, b1, _⟩ := open_i64 k1
  obtain ⟨y2, e2⟩ := z 2 (by omega)
  rw [e2] at k2
  obtain ⟨a2, rfl, b2, _⟩ := open_i64 k2
  obtain ⟨y3, e3⟩ := z 3 (by omega)
  rw [e3] at k3
  obtain ⟨a3, rfl, b3, _⟩ := open_i64 k3
  obtain ⟨y4, e4⟩ := z 4 (by omega)
  rw [e4] at k4
  obtain ⟨a4, rfl, b4, _⟩ := open_i64 k4
  obtain ⟨y5, e5⟩ := z 5 (by omega)
  rw [e5] at k5
  obtain ⟨a5, rfl, b5, _⟩ := open_i64 k5
  obtain ⟨y6, e6⟩ := z 6 (by omega)
  rw [e6] at k6
  obtain ⟨a6, rfl, b6, _⟩ := open_i64 k6
  obtain ⟨y7, e7⟩ := z 7 (by omega)
  rw [e7] at k7
  obtain ⟨a7, rfl, b7, _⟩ := open_i64 k7
  obtain ⟨y8, e8⟩ := z 8 (by omega)
  rw [e8] at k8
  obtain ⟨a8, rfl, b8, _⟩ := open_i64 k8
  obtain ⟨y9, e9⟩ := z 9 (by omega)
  rw [e9] at k9
  obtain ⟨a9, rfl, b9, _⟩ := open_i64 k9
  exact ⟨a0, a1, a2, a3, a4, a5, a6, a7, a8, a9, rfl, b0, b1, b2, b3, b4, b5, b6, b7, b8, b9⟩

end Go.Proofs.Ytlbpjcphhocdkaa
