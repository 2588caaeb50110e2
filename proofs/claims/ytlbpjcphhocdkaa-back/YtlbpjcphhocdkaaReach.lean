/- How great a string or a number among the arguments may be. -/
import Derived.Test.YtlbpjcphhocdkaaOpenBlk
namespace Go.Proofs.Ytlbpjcphhocdkaa
open Go.ChangeShapes Go.WideShapes Go.ChangeAt Go.RowKit Go.Joins

theorem string_reach {H : Type} {ts : List TypeId} {ds : List (DataW H)} {s : ByteArray} {j : Nat}
    (hsz : (DataW.weightsEach Try.prog ts ds).all (· ≤ reachBytes) = true) (ht : ts[j]? = some 9) (hd : ds[j]? = some (.lit (.string s.data.toList))) : s.size ≤ 140737488351232 := by
  have := List.all_eq_true.1 hsz _ (DataW.weights_mem_each ht hd s.size (by simp [DataW.weights]))
  exact of_decide_eq_true this
theorem int_reach (a0 : Int) (w0 : (Lit.int .i64 a0).wf = true) : -9223372036854775808 ≤ a0 ∧ a0 ≤ 9223372036854775807 := by
  simpa [Lit.wf, IntKind.min, IntKind.max, IntKind.signed, IntKind.bits] using w0
end Go.Proofs.Ytlbpjcphhocdkaa
