/-
  No cell of these rows narrows 'for every input' (looked for: loops, veiled, ifaces, maps, wideKeys, modest, calm, conditions, laid).
  DERIVED. THE GIVEN ROWS OF THIS SEAT. 3 by the template 'for every input the law returns true; each argument reads behind the call as it read before'; 0 by the template 'total and deterministic' (their statements: YtlbpjcphhocdkaaGreatTotals.lean).
  GIVEN WITH THE SEED: the statements are not yours to turn. If you find one false, say at which input.
  Laid BY PROGRAM, IN A SANDBOX (cutbox-rows.mjs): the forced cells as the released guide's own fill.sh prints them over the translation a3b7d5bf07770833… (all of the seat's roots in one cut). By AI agents, Wed Nov 11 2026. No macro, syntax, notation, axiom, sorry.
-/
import Derived.Test.YtlbpjcphhocdkaaGreatChecked
import GoSem.Claim
import GoSem.ClaimJoined
import GoSem.ClaimMapViews
import Derived.JoinedTies
import Derived.KernelRfl
namespace Go.Proofs.YtlbpjcphhocdkaaGreat
/- THE CELL 'sum', in the pinned program and in every row, IS THE sha256 OF THE DUMP (.gsa) THAT YtlbpjcphhocdkaaGreatProg.lean LOADS. Nothing in Lean hashes anything: it is a label: what it is worth is what the hold of that sum in a sandbox is worth. -/
noncomputable def Tryz.pinned : Pinned := { name := "ytlbpjcphhocdkaagreat", sum := "a3b7d5bf077708339d8a8ad31b9946e6b5cc9eadf66f4f4d1348101447644f4f", checked := Tryz.checked }
namespace Rows
def none {H : Type} : Left H := { results := [], args := [] }

/-- 'duplexlaw.Turns': WHATEVER THE INPUT: true; the input reads as it did. -/
def turnsSpec : ChangeSpec := { name := "turns", fn := fun _ => fun
  | [d] => { results := [.lit (.bool true)], args := [d] }
  | _ => none }
def turnsRow : OpenClaim := { program := "ytlbpjcphhocdkaagreat", sum := "a3b7d5bf077708339d8a8ad31b9946e6b5cc9eadf66f4f4d1348101447644f4f", func := "duplex/duplexlaw.Turns", spec := "turns", apart := false }
def TurnsSaid : Prop := turnsRow.holds Tryz.pinned (OpenSpec.ofChange turnsSpec)

/-- ITS FALSE NEIGHBOUR: 'it returns false'. Refute it at one input. -/
def turnsWrong : ChangeSpec := { name := "turns", fn := fun _ => fun
  | [d] => { results := [.lit (.bool false)], args := [d] }
  | _ => none }
def TurnsWrongFalsely : Prop := turnsRow.holds Tryz.pinned (OpenSpec.ofChange turnsWrong)

/-- 'duplexlaw.Faults': WHATEVER THE INPUT: true; the input reads as it did. -/
def faultsSpec : ChangeSpec := { name := "faults", fn := fun _ => fun
  | [d] => { results := [.lit (.bool true)], args := [d] }
  | _ => none }
def faultsRow : OpenClaim := { program := "ytlbpjcphhocdkaagreat", sum := "a3b7d5bf077708339d8a8ad31b9946e6b5cc9eadf66f4f4d1348101447644f4f", func := "duplex/duplexlaw.Faults", spec := "faults", apart := false }
def FaultsSaid : Prop := faultsRow.holds Tryz.pinned (OpenSpec.ofChange faultsSpec)

/-- ITS FALSE NEIGHBOUR: 'it returns false'. Refute it at one input. -/
def faultsWrong : ChangeSpec := { name := "faults", fn := fun _ => fun
  | [d] => { results := [.lit (.bool false)], args := [d] }
  | _ => none }
def FaultsWrongFalsely : Prop := faultsRow.holds Tryz.pinned (OpenSpec.ofChange faultsWrong)

/-- 'duplexlaw.All': WHATEVER THE INPUT: true; the input reads as it did. -/
def allSpec : ChangeSpec := { name := "all", fn := fun _ => fun
  | [d] => { results := [.lit (.bool true)], args := [d] }
  | _ => none }
def allRow : OpenClaim := { program := "ytlbpjcphhocdkaagreat", sum := "a3b7d5bf077708339d8a8ad31b9946e6b5cc9eadf66f4f4d1348101447644f4f", func := "duplex/duplexlaw.All", spec := "all", apart := false }
def AllSaid : Prop := allRow.holds Tryz.pinned (OpenSpec.ofChange allSpec)

/-- ITS FALSE NEIGHBOUR: 'it returns false'. Refute it at one input. -/
def allWrong : ChangeSpec := { name := "all", fn := fun _ => fun
  | [d] => { results := [.lit (.bool false)], args := [d] }
  | _ => none }
def AllWrongFalsely : Prop := allRow.holds Tryz.pinned (OpenSpec.ofChange allWrong)

/- THE SECOND FORM. 'bulk': how many values and letters a reading holds, each counted each time it is reached (what is shared counts as often as it is met; a slice's spare places count too). A statement '..UptoSaid' is the law's where the arguments, and the package variables that the reading takes, are together of bulk at most 1048576: NARROWER than '..Said'. Prove '..Said' where nothing that the law and all that it calls make is longer than what came in: it says more and counts as full. Else prove '..UptoSaid'. A law counts once. -/
mutual
def uptoBulk {H : Type} : DataW H → Nat
  | .lit (.string bytes) => bytes.length + 1
  | .lit _ => 1
  | .nil => 1
  | .ptr d => uptoBulk d + 1
  | .slice elems spare => uptoBulkAll elems + uptoBulkAll spare + 1
  | .agg parts => uptoBulkAll parts + 1
  | .iface _ d => uptoBulk d + 1
  | .map entries => uptoBulkEntries entries + 1
  | .held _ => 1
def uptoBulkAll {H : Type} : List (DataW H) → Nat
  | [] => 0
  | d :: r => uptoBulk d + uptoBulkAll r
def uptoBulkEntries {H : Type} : List (Lit × DataW H) → Nat
  | [] => 0
  | x :: r => uptoBulkEntry x + uptoBulkEntries r
def uptoBulkEntry {H : Type} : Lit × DataW H → Nat
  | (.string bytes, d) => bytes.length + uptoBulk d + 1
  | (_, d) => uptoBulk d + 1
 end
def uptoSmall : (H : Type) → List (DataW H) → Bool := fun _ ds => decide (uptoBulkAll ds ≤ 1048576)
def OpenSpec.upto (s : _root_.Go.ChangeSpec) : _root_.Go.OpenSpec := { _root_.Go.OpenSpec.ofChange s with cond := some uptoSmall }

/-- 'duplexlaw.Turns', WHERE WHAT IT READS IS OF BULK AT MOST 1048576: true; the input reads as it did. -/
def turnsUptoRow : OpenClaim := { program := "ytlbpjcphhocdkaagreat", sum := "a3b7d5bf077708339d8a8ad31b9946e6b5cc9eadf66f4f4d1348101447644f4f", func := "duplex/duplexlaw.Turns", spec := "turns", apart := false, narrowed := true }
def TurnsUptoSaid : Prop := turnsUptoRow.holds Tryz.pinned (OpenSpec.upto turnsSpec)

/-- 'duplexlaw.Faults', WHERE WHAT IT READS IS OF BULK AT MOST 1048576: true; the input reads as it did. -/
def faultsUptoRow : OpenClaim := { program := "ytlbpjcphhocdkaagreat", sum := "a3b7d5bf077708339d8a8ad31b9946e6b5cc9eadf66f4f4d1348101447644f4f", func := "duplex/duplexlaw.Faults", spec := "faults", apart := false, narrowed := true }
def FaultsUptoSaid : Prop := faultsUptoRow.holds Tryz.pinned (OpenSpec.upto faultsSpec)

/-- 'duplexlaw.All', WHERE WHAT IT READS IS OF BULK AT MOST 1048576: true; the input reads as it did. -/
def allUptoRow : OpenClaim := { program := "ytlbpjcphhocdkaagreat", sum := "a3b7d5bf077708339d8a8ad31b9946e6b5cc9eadf66f4f4d1348101447644f4f", func := "duplex/duplexlaw.All", spec := "all", apart := false, narrowed := true }
def AllUptoSaid : Prop := allUptoRow.holds Tryz.pinned (OpenSpec.upto allSpec)

end Rows
end Go.Proofs.YtlbpjcphhocdkaaGreat
