/-
  DERIVED. GIVEN WITH THE SEED: THE CARDS: each row of YtlbpjcphhocdkabGreatDoorRows.lean that lists a variable, with what it lists TIED to the program's text (the seventh form; the later family's looks); each row that meets fmt, with fmt's text TOLD by the authors' own Lean function (tested against real Go, not proved from fmt's source: count such statements apart). THE CARD IS WHAT COUNTS. Prove the row's statement (the work); the ties are given (YtlbpjcphhocdkabGreatDoorTie.lean); close each card by the builder's one call (the guide's Derived/Test/ToyasCard.lean, 'card_holds'). Laid BY PROGRAM, IN A SANDBOX (cutbox-door.mjs). By AI agents, Wed Nov 11 2026. No macro, syntax, notation, axiom, sorry.
-/
import Derived.Test.YtlbpjcphhocdkabGreatDoorRows
import GoSem.ClaimSeven
namespace Go.Proofs.YtlbpjcphhocdkabGreatDoor
namespace Rows

/-- THE TIED CARD OF 'duplexkeep.Primary'. -/
def primaryCard : Claim7 := { stood := { row := primaryRow, standIns := [], harness := (true, "83546ea0d44c0dbf0d10714a4aa846266200a9a0f88a82075b26f9612e90402b"), looks := false }, kinds := [], alts := [], laidByText := true, laidKinds := [.data, .data, .data], laidTests := true, laidLooks := .later }
def PrimaryCardSaid : Prop := Claim7.holds Tryz.pinned (.plain (OpenSpec.ofChange primarySpec)) primaryCard

/-- THE TIED CARD OF 'duplexkeep.Fair'. -/
def fairCard : Claim7 := { stood := { row := fairRow, standIns := [], harness := (true, "83546ea0d44c0dbf0d10714a4aa846266200a9a0f88a82075b26f9612e90402b"), looks := false }, kinds := [], alts := [], laidByText := true, laidKinds := [.data, .data, .data], laidTests := true, laidLooks := .later }
def FairCardSaid : Prop := Claim7.holds Tryz.pinned (.plain (OpenSpec.ofChange fairSpec)) fairCard

/-- THE TIED CARD OF 'duplexkeep.Room'. -/
def roomCard : Claim7 := { stood := { row := roomRow, standIns := [], harness := (true, "83546ea0d44c0dbf0d10714a4aa846266200a9a0f88a82075b26f9612e90402b"), looks := false }, kinds := [], alts := [], laidByText := true, laidKinds := [.data, .data, .data], laidTests := true, laidLooks := .later }
def RoomCardSaid : Prop := Claim7.holds Tryz.pinned (.plain (OpenSpec.ofChange roomSpec)) roomCard

/-- THE TIED CARD OF 'duplexkeep.Fifo'. -/
def fifoCard : Claim7 := { stood := { row := fifoRow, standIns := [], harness := (true, "83546ea0d44c0dbf0d10714a4aa846266200a9a0f88a82075b26f9612e90402b"), looks := false }, kinds := [], alts := [], laidByText := true, laidKinds := [.data, .data, .data], laidTests := true, laidLooks := .later }
def FifoCardSaid : Prop := Claim7.holds Tryz.pinned (.plain (OpenSpec.ofChange fifoSpec)) fifoCard

/-- THE TIED CARD OF 'duplexkeep.Token'. -/
def tokenCard : Claim7 := { stood := { row := tokenRow, standIns := [], harness := (true, "83546ea0d44c0dbf0d10714a4aa846266200a9a0f88a82075b26f9612e90402b"), looks := false }, kinds := [], alts := [], laidByText := true, laidKinds := [.data, .data, .data], laidTests := true, laidLooks := .later }
def TokenCardSaid : Prop := Claim7.holds Tryz.pinned (.plain (OpenSpec.ofChange tokenSpec)) tokenCard

/-- THE TIED CARD OF 'duplexkeep.Calm'. -/
def calmCard : Claim7 := { stood := { row := calmRow, standIns := [], harness := (true, "83546ea0d44c0dbf0d10714a4aa846266200a9a0f88a82075b26f9612e90402b"), looks := false }, kinds := [], alts := [], laidByText := true, laidKinds := [.data, .data, .data], laidTests := true, laidLooks := .later }
def CalmCardSaid : Prop := Claim7.holds Tryz.pinned (.plain (OpenSpec.ofChange calmSpec)) calmCard

/-- THE TIED CARD OF 'duplexkeep.Dead'. -/
def deadCard : Claim7 := { stood := { row := deadRow, standIns := [], harness := (true, "83546ea0d44c0dbf0d10714a4aa846266200a9a0f88a82075b26f9612e90402b"), looks := false }, kinds := [], alts := [], laidByText := true, laidKinds := [.data, .data, .data], laidTests := true, laidLooks := .later }
def DeadCardSaid : Prop := Claim7.holds Tryz.pinned (.plain (OpenSpec.ofChange deadSpec)) deadCard

/-- THE SECOND FORM's CARD OF 'duplexkeep.Primary'. -/
def primaryUptoCard : Claim7 := { stood := { row := primaryUptoRow, standIns := [], harness := (true, "83546ea0d44c0dbf0d10714a4aa846266200a9a0f88a82075b26f9612e90402b"), looks := false }, kinds := [], alts := [], laidByText := true, laidKinds := [.data, .data, .data], laidTests := true, laidLooks := .later }
def PrimaryUptoCardSaid : Prop := Claim7.holds Tryz.pinned (.plain (OpenSpec.upto primarySpec)) primaryUptoCard

/-- THE SECOND FORM's CARD OF 'duplexkeep.Fair'. -/
def fairUptoCard : Claim7 := { stood := { row := fairUptoRow, standIns := [], harness := (true, "83546ea0d44c0dbf0d10714a4aa846266200a9a0f88a82075b26f9612e90402b"), looks := false }, kinds := [], alts := [], laidByText := true, laidKinds := [.data, .data, .data], laidTests := true, laidLooks := .later }
def FairUptoCardSaid : Prop := Claim7.holds Tryz.pinned (.plain (OpenSpec.upto fairSpec)) fairUptoCard

/-- THE SECOND FORM's CARD OF 'duplexkeep.Room'. -/
def roomUptoCard : Claim7 := { stood := { row := roomUptoRow, standIns := [], harness := (true, "83546ea0d44c0dbf0d10714a4aa846266200a9a0f88a82075b26f9612e90402b"), looks := false }, kinds := [], alts := [], laidByText := true, laidKinds := [.data, .data, .data], laidTests := true, laidLooks := .later }
def RoomUptoCardSaid : Prop := Claim7.holds Tryz.pinned (.plain (OpenSpec.upto roomSpec)) roomUptoCard

/-- THE SECOND FORM's CARD OF 'duplexkeep.Fifo'. -/
def fifoUptoCard : Claim7 := { stood := { row := fifoUptoRow, standIns := [], harness := (true, "83546ea0d44c0dbf0d10714a4aa846266200a9a0f88a82075b26f9612e90402b"), looks := false }, kinds := [], alts := [], laidByText := true, laidKinds := [.data, .data, .data], laidTests := true, laidLooks := .later }
def FifoUptoCardSaid : Prop := Claim7.holds Tryz.pinned (.plain (OpenSpec.upto fifoSpec)) fifoUptoCard

/-- THE SECOND FORM's CARD OF 'duplexkeep.Token'. -/
def tokenUptoCard : Claim7 := { stood := { row := tokenUptoRow, standIns := [], harness := (true, "83546ea0d44c0dbf0d10714a4aa846266200a9a0f88a82075b26f9612e90402b"), looks := false }, kinds := [], alts := [], laidByText := true, laidKinds := [.data, .data, .data], laidTests := true, laidLooks := .later }
def TokenUptoCardSaid : Prop := Claim7.holds Tryz.pinned (.plain (OpenSpec.upto tokenSpec)) tokenUptoCard

/-- THE SECOND FORM's CARD OF 'duplexkeep.Calm'. -/
def calmUptoCard : Claim7 := { stood := { row := calmUptoRow, standIns := [], harness := (true, "83546ea0d44c0dbf0d10714a4aa846266200a9a0f88a82075b26f9612e90402b"), looks := false }, kinds := [], alts := [], laidByText := true, laidKinds := [.data, .data, .data], laidTests := true, laidLooks := .later }
def CalmUptoCardSaid : Prop := Claim7.holds Tryz.pinned (.plain (OpenSpec.upto calmSpec)) calmUptoCard

/-- THE SECOND FORM's CARD OF 'duplexkeep.Dead'. -/
def deadUptoCard : Claim7 := { stood := { row := deadUptoRow, standIns := [], harness := (true, "83546ea0d44c0dbf0d10714a4aa846266200a9a0f88a82075b26f9612e90402b"), looks := false }, kinds := [], alts := [], laidByText := true, laidKinds := [.data, .data, .data], laidTests := true, laidLooks := .later }
def DeadUptoCardSaid : Prop := Claim7.holds Tryz.pinned (.plain (OpenSpec.upto deadSpec)) deadUptoCard
end Rows
end Go.Proofs.YtlbpjcphhocdkabGreatDoor
