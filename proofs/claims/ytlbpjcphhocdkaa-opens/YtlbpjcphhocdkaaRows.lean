/-
  No cell of these rows narrows 'for every input' (looked for: loops, veiled, ifaces, maps, wideKeys, modest, calm, conditions, laid).
  DERIVED. THE GIVEN ROWS OF THIS SEAT. 9 by the template 'for every input the law returns true; each argument reads behind the call as it read before'; 0 by the template 'total and deterministic' (their statements: YtlbpjcphhocdkaaTotals.lean).
  GIVEN WITH THE SEED: the statements are not yours to turn. If you find one false, say at which input.
  Laid BY PROGRAM, IN A SANDBOX (cutbox-rows.mjs): the forced cells as the released guide's own fill.sh prints them over the translation ebcfb1d84af09075… (all of the seat's roots in one cut). By AI agents, Wed Nov 11 2026. No macro, syntax, notation, axiom, sorry.
-/
import Derived.Test.YtlbpjcphhocdkaaChecked
import GoSem.Claim
import GoSem.ClaimJoined
import GoSem.ClaimMapViews
import Derived.JoinedTies
import Derived.KernelRfl
namespace Go.Proofs.Ytlbpjcphhocdkaa
/- THE CELL 'sum', in the pinned program and in every row, IS THE sha256 OF THE DUMP (.gsa) THAT YtlbpjcphhocdkaaProg.lean LOADS. Nothing in Lean hashes anything: it is a label: what it is worth is what the hold of that sum in a sandbox is worth. -/
noncomputable def Try.pinned : Pinned := { name := "ytlbpjcphhocdkaa", sum := "ebcfb1d84af09075336884b04e645e35ea619bdff54a6bc15f91cd9686f7840e", checked := Try.checked }
namespace Rows
def none {H : Type} : Left H := { results := [], args := [] }

/-- 'duplexlaw.Sums': WHATEVER THE INPUT: true; the input reads as it did. -/
def sumsSpec : ChangeSpec := { name := "sums", fn := fun _ => fun
  | [d1, d2] => { results := [.lit (.bool true)], args := [d1, d2] }
  | _ => none }
def sumsRow : OpenClaim := { program := "ytlbpjcphhocdkaa", sum := "ebcfb1d84af09075336884b04e645e35ea619bdff54a6bc15f91cd9686f7840e", func := "duplex/duplexlaw.Sums", spec := "sums", apart := false }
def SumsSaid : Prop := sumsRow.holds Try.pinned (OpenSpec.ofChange sumsSpec)

/-- ITS FALSE NEIGHBOUR: 'it returns false'. Refute it at one input. -/
def sumsWrong : ChangeSpec := { name := "sums", fn := fun _ => fun
  | [d1, d2] => { results := [.lit (.bool false)], args := [d1, d2] }
  | _ => none }
def SumsWrongFalsely : Prop := sumsRow.holds Try.pinned (OpenSpec.ofChange sumsWrong)

/-- 'duplexlaw.Shorts': WHATEVER THE INPUT: true; the input reads as it did. -/
def shortsSpec : ChangeSpec := { name := "shorts", fn := fun _ => fun
  | [d] => { results := [.lit (.bool true)], args := [d] }
  | _ => none }
def shortsRow : OpenClaim := { program := "ytlbpjcphhocdkaa", sum := "ebcfb1d84af09075336884b04e645e35ea619bdff54a6bc15f91cd9686f7840e", func := "duplex/duplexlaw.Shorts", spec := "shorts", apart := false }
def ShortsSaid : Prop := shortsRow.holds Try.pinned (OpenSpec.ofChange shortsSpec)

/-- ITS FALSE NEIGHBOUR: 'it returns false'. Refute it at one input. -/
def shortsWrong : ChangeSpec := { name := "shorts", fn := fun _ => fun
  | [d] => { results := [.lit (.bool false)], args := [d] }
  | _ => none }
def ShortsWrongFalsely : Prop := shortsRow.holds Try.pinned (OpenSpec.ofChange shortsWrong)

/-- 'duplexlaw.Encodes': WHATEVER THE INPUT: true; the input reads as it did. -/
def encodesSpec : ChangeSpec := { name := "encodes", fn := fun _ => fun
  | [d1, d2] => { results := [.lit (.bool true)], args := [d1, d2] }
  | _ => none }
def encodesRow : OpenClaim := { program := "ytlbpjcphhocdkaa", sum := "ebcfb1d84af09075336884b04e645e35ea619bdff54a6bc15f91cd9686f7840e", func := "duplex/duplexlaw.Encodes", spec := "encodes", apart := false }
def EncodesSaid : Prop := encodesRow.holds Try.pinned (OpenSpec.ofChange encodesSpec)

/-- ITS FALSE NEIGHBOUR: 'it returns false'. Refute it at one input. -/
def encodesWrong : ChangeSpec := { name := "encodes", fn := fun _ => fun
  | [d1, d2] => { results := [.lit (.bool false)], args := [d1, d2] }
  | _ => none }
def EncodesWrongFalsely : Prop := encodesRow.holds Try.pinned (OpenSpec.ofChange encodesWrong)

/-- 'duplexlaw.Reads': WHATEVER THE INPUT: true; the input reads as it did. -/
def readsSpec : ChangeSpec := { name := "reads", fn := fun _ => fun
  | [d1, d2] => { results := [.lit (.bool true)], args := [d1, d2] }
  | _ => none }
def readsRow : OpenClaim := { program := "ytlbpjcphhocdkaa", sum := "ebcfb1d84af09075336884b04e645e35ea619bdff54a6bc15f91cd9686f7840e", func := "duplex/duplexlaw.Reads", spec := "reads", apart := false }
def ReadsSaid : Prop := readsRow.holds Try.pinned (OpenSpec.ofChange readsSpec)

/-- ITS FALSE NEIGHBOUR: 'it returns false'. Refute it at one input. -/
def readsWrong : ChangeSpec := { name := "reads", fn := fun _ => fun
  | [d1, d2] => { results := [.lit (.bool false)], args := [d1, d2] }
  | _ => none }
def ReadsWrongFalsely : Prop := readsRow.holds Try.pinned (OpenSpec.ofChange readsWrong)

/-- 'duplexlaw.Opens': WHATEVER THE INPUT: true; the input reads as it did. -/
def opensSpec : ChangeSpec := { name := "opens", fn := fun _ => fun
  | [d] => { results := [.lit (.bool true)], args := [d] }
  | _ => none }
def opensRow : OpenClaim := { program := "ytlbpjcphhocdkaa", sum := "ebcfb1d84af09075336884b04e645e35ea619bdff54a6bc15f91cd9686f7840e", func := "duplex/duplexlaw.Opens", spec := "opens", apart := false }
def OpensSaid : Prop := opensRow.holds Try.pinned (OpenSpec.ofChange opensSpec)

/-- ITS FALSE NEIGHBOUR: 'it returns false'. Refute it at one input. -/
def opensWrong : ChangeSpec := { name := "opens", fn := fun _ => fun
  | [d] => { results := [.lit (.bool false)], args := [d] }
  | _ => none }
def OpensWrongFalsely : Prop := opensRow.holds Try.pinned (OpenSpec.ofChange opensWrong)

/-- 'duplexkeep.Known': WHATEVER THE INPUT: true; the input reads as it did. -/
def knownSpec : ChangeSpec := { name := "known", fn := fun _ => fun
  | [d] => { results := [.lit (.bool true)], args := [d] }
  | _ => none }
def knownRow : OpenClaim := { program := "ytlbpjcphhocdkaa", sum := "ebcfb1d84af09075336884b04e645e35ea619bdff54a6bc15f91cd9686f7840e", func := "duplex/duplexkeep.Known", spec := "known", apart := false }
def KnownSaid : Prop := knownRow.holds Try.pinned (OpenSpec.ofChange knownSpec)

/-- ITS FALSE NEIGHBOUR: 'it returns false'. Refute it at one input. -/
def knownWrong : ChangeSpec := { name := "known", fn := fun _ => fun
  | [d] => { results := [.lit (.bool false)], args := [d] }
  | _ => none }
def KnownWrongFalsely : Prop := knownRow.holds Try.pinned (OpenSpec.ofChange knownWrong)

/-- 'duplexkeep.Back': WHATEVER THE INPUT: true; the input reads as it did. -/
def backSpec : ChangeSpec := { name := "back", fn := fun _ => fun
  | [d1, d2, d3, d4] => { results := [.lit (.bool true)], args := [d1, d2, d3, d4] }
  | _ => none }
def backRow : OpenClaim := { program := "ytlbpjcphhocdkaa", sum := "ebcfb1d84af09075336884b04e645e35ea619bdff54a6bc15f91cd9686f7840e", func := "duplex/duplexkeep.Back", spec := "back", apart := false }
def BackSaid : Prop := backRow.holds Try.pinned (OpenSpec.ofChange backSpec)

/-- ITS FALSE NEIGHBOUR: 'it returns false'. Refute it at one input. -/
def backWrong : ChangeSpec := { name := "back", fn := fun _ => fun
  | [d1, d2, d3, d4] => { results := [.lit (.bool false)], args := [d1, d2, d3, d4] }
  | _ => none }
def BackWrongFalsely : Prop := backRow.holds Try.pinned (OpenSpec.ofChange backWrong)

/-- 'duplexkeep.Burst': WHATEVER THE INPUT: true; the input reads as it did. -/
def burstSpec : ChangeSpec := { name := "burst", fn := fun _ => fun
  | [d1, d2, d3, d4] => { results := [.lit (.bool true)], args := [d1, d2, d3, d4] }
  | _ => none }
def burstRow : OpenClaim := { program := "ytlbpjcphhocdkaa", sum := "ebcfb1d84af09075336884b04e645e35ea619bdff54a6bc15f91cd9686f7840e", func := "duplex/duplexkeep.Burst", spec := "burst", apart := false }
def BurstSaid : Prop := burstRow.holds Try.pinned (OpenSpec.ofChange burstSpec)

/-- ITS FALSE NEIGHBOUR: 'it returns false'. Refute it at one input. -/
def burstWrong : ChangeSpec := { name := "burst", fn := fun _ => fun
  | [d1, d2, d3, d4] => { results := [.lit (.bool false)], args := [d1, d2, d3, d4] }
  | _ => none }
def BurstWrongFalsely : Prop := burstRow.holds Try.pinned (OpenSpec.ofChange burstWrong)

/-- 'duplexkeep.Cuts': WHATEVER THE INPUT: true; the input reads as it did. -/
def cutsSpec : ChangeSpec := { name := "cuts", fn := fun _ => fun
  | [d1, d2, d3, d4, d5] => { results := [.lit (.bool true)], args := [d1, d2, d3, d4, d5] }
  | _ => none }
def cutsRow : OpenClaim := { program := "ytlbpjcphhocdkaa", sum := "ebcfb1d84af09075336884b04e645e35ea619bdff54a6bc15f91cd9686f7840e", func := "duplex/duplexkeep.Cuts", spec := "cuts", apart := false }
def CutsSaid : Prop := cutsRow.holds Try.pinned (OpenSpec.ofChange cutsSpec)

/-- ITS FALSE NEIGHBOUR: 'it returns false'. Refute it at one input. -/
def cutsWrong : ChangeSpec := { name := "cuts", fn := fun _ => fun
  | [d1, d2, d3, d4, d5] => { results := [.lit (.bool false)], args := [d1, d2, d3, d4, d5] }
  | _ => none }
def CutsWrongFalsely : Prop := cutsRow.holds Try.pinned (OpenSpec.ofChange cutsWrong)

/- THE SECOND FORM. 'bulk': how many values and letters a reading holds, each counted each time it is reached (what is shared counts as often as it is met; a slice's spare places count too). A statement '..UptoSaid' is the law's where the arguments, and the package variables that the reading takes, are together of bulk at most 1048576: NARROWER than '..Said'. Prove '..Said' where nothing that the law and all that it calls make is longer than what came in: it says more and counts as full. Else prove '..UptoSaid'. A law counts once. -/
mutual
def uptoBulk {H : Type} : DataW H → Nat
  | .lit (.string bytes) => bytes.length + 1
  | .lit _ => 1
  | .nil => 1
  | .ptr d => uptoBulk d + 1
  | .slice elems spare => uptoBulkAll elems + uptoBulkAll spare + 1
  | .agg parts => uptoBulkAll parts + 1
  | .iface _ d => uptoBulk d + 1
  | .map entries => uptoBulkEntries entries + 1
  | .held _ => 1
def uptoBulkAll {H : Type} : List (DataW H) → Nat
  | [] => 0
  | d :: r => uptoBulk d + uptoBulkAll r
def uptoBulkEntries {H : Type} : List (Lit × DataW H) → Nat
  | [] => 0
  | x :: r => uptoBulkEntry x + uptoBulkEntries r
def uptoBulkEntry {H : Type} : Lit × DataW H → Nat
  | (.string bytes, d) => bytes.length + uptoBulk d + 1
  | (_, d) => uptoBulk d + 1
 end
def uptoSmall : (H : Type) → List (DataW H) → Bool := fun _ ds => decide (uptoBulkAll ds ≤ 1048576)
def OpenSpec.upto (s : _root_.Go.ChangeSpec) : _root_.Go.OpenSpec := { _root_.Go.OpenSpec.ofChange s with cond := some uptoSmall }

/-- 'duplexlaw.Sums', WHERE WHAT IT READS IS OF BULK AT MOST 1048576: true; the input reads as it did. -/
def sumsUptoRow : OpenClaim := { program := "ytlbpjcphhocdkaa", sum := "ebcfb1d84af09075336884b04e645e35ea619bdff54a6bc15f91cd9686f7840e", func := "duplex/duplexlaw.Sums", spec := "sums", apart := false, narrowed := true }
def SumsUptoSaid : Prop := sumsUptoRow.holds Try.pinned (OpenSpec.upto sumsSpec)

/-- 'duplexlaw.Shorts', WHERE WHAT IT READS IS OF BULK AT MOST 1048576: true; the input reads as it did. -/
def shortsUptoRow : OpenClaim := { program := "ytlbpjcphhocdkaa", sum := "ebcfb1d84af09075336884b04e645e35ea619bdff54a6bc15f91cd9686f7840e", func := "duplex/duplexlaw.Shorts", spec := "shorts", apart := false, narrowed := true }
def ShortsUptoSaid : Prop := shortsUptoRow.holds Try.pinned (OpenSpec.upto shortsSpec)

/-- 'duplexlaw.Encodes', WHERE WHAT IT READS IS OF BULK AT MOST 1048576: true; the input reads as it did. -/
def encodesUptoRow : OpenClaim := { program := "ytlbpjcphhocdkaa", sum := "ebcfb1d84af09075336884b04e645e35ea619bdff54a6bc15f91cd9686f7840e", func := "duplex/duplexlaw.Encodes", spec := "encodes", apart := false, narrowed := true }
def EncodesUptoSaid : Prop := encodesUptoRow.holds Try.pinned (OpenSpec.upto encodesSpec)

/-- 'duplexlaw.Reads', WHERE WHAT IT READS IS OF BULK AT MOST 1048576: true; the input reads as it did. -/
def readsUptoRow : OpenClaim := { program := "ytlbpjcphhocdkaa", sum := "ebcfb1d84af09075336884b04e645e35ea619bdff54a6bc15f91cd9686f7840e", func := "duplex/duplexlaw.Reads", spec := "reads", apart := false, narrowed := true }
def ReadsUptoSaid : Prop := readsUptoRow.holds Try.pinned (OpenSpec.upto readsSpec)

/-- 'duplexlaw.Opens', WHERE WHAT IT READS IS OF BULK AT MOST 1048576: true; the input reads as it did. -/
def opensUptoRow : OpenClaim := { program := "ytlbpjcphhocdkaa", sum := "ebcfb1d84af09075336884b04e645e35ea619bdff54a6bc15f91cd9686f7840e", func := "duplex/duplexlaw.Opens", spec := "opens", apart := false, narrowed := true }
def OpensUptoSaid : Prop := opensUptoRow.holds Try.pinned (OpenSpec.upto opensSpec)

/-- 'duplexkeep.Known', WHERE WHAT IT READS IS OF BULK AT MOST 1048576: true; the input reads as it did. -/
def knownUptoRow : OpenClaim := { program := "ytlbpjcphhocdkaa", sum := "ebcfb1d84af09075336884b04e645e35ea619bdff54a6bc15f91cd9686f7840e", func := "duplex/duplexkeep.Known", spec := "known", apart := false, narrowed := true }
def KnownUptoSaid : Prop := knownUptoRow.holds Try.pinned (OpenSpec.upto knownSpec)

/-- 'duplexkeep.Back', WHERE WHAT IT READS IS OF BULK AT MOST 1048576: true; the input reads as it did. -/
def backUptoRow : OpenClaim := { program := "ytlbpjcphhocdkaa", sum := "ebcfb1d84af09075336884b04e645e35ea619bdff54a6bc15f91cd9686f7840e", func := "duplex/duplexkeep.Back", spec := "back", apart := false, narrowed := true }
def BackUptoSaid : Prop := backUptoRow.holds Try.pinned (OpenSpec.upto backSpec)

/-- 'duplexkeep.Burst', WHERE WHAT IT READS IS OF BULK AT MOST 1048576: true; the input reads as it did. -/
def burstUptoRow : OpenClaim := { program := "ytlbpjcphhocdkaa", sum := "ebcfb1d84af09075336884b04e645e35ea619bdff54a6bc15f91cd9686f7840e", func := "duplex/duplexkeep.Burst", spec := "burst", apart := false, narrowed := true }
def BurstUptoSaid : Prop := burstUptoRow.holds Try.pinned (OpenSpec.upto burstSpec)

/-- 'duplexkeep.Cuts', WHERE WHAT IT READS IS OF BULK AT MOST 1048576: true; the input reads as it did. -/
def cutsUptoRow : OpenClaim := { program := "ytlbpjcphhocdkaa", sum := "ebcfb1d84af09075336884b04e645e35ea619bdff54a6bc15f91cd9686f7840e", func := "duplex/duplexkeep.Cuts", spec := "cuts", apart := false, narrowed := true }
def CutsUptoSaid : Prop := cutsUptoRow.holds Try.pinned (OpenSpec.upto cutsSpec)

end Rows
end Go.Proofs.Ytlbpjcphhocdkaa
