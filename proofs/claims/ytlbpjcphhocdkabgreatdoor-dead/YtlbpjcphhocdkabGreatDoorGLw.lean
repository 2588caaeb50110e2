/-What the laws on lines share: the listed table, the start that is shown. -/
import Derived.Test.YtlbpjcphhocdkabGreatDoorGOs
import Derived.LaidMore
import Derived.Stop.Joined
import Derived.MakeChecks
namespace Go.Proofs.YtlbpjcphhocdkabGreatDoor
set_option maxRecDepth 1000000
open Go.ChangeShapes Go.WideShapes Go.ChangeAt Go.RowKit

theorem ScrAt.below {w w' : World} {a : Option Addr} {l : List Stp} (h : ScrAt w a l) (k : Below w.heap.size w w') : ScrAt w' a l := by
  rcases h with h | ⟨b, off, ha, hb, h⟩
  · exact Or.inl h
  · exact Or.inr ⟨b, off, ha, Nat.lt_of_lt_of_le hb k.size, fun i o hi j v hj => (k.cell (p := ⟨b, off + i * 8 + j, none⟩) hb).trans (h i o hi j v hj)⟩
theorem gTab : Tryz.prog.globalNamed "internal/strconv.uint64pow10" = some 0 := by kernel_rfl
theorem tTab : (Tryz.prog.globals[0]?).map (·.type) = some 122 := by kernel_rfl
theorem of_laid {W : World} (h : laidMetH Tryz.prog laid3 W) : Tab W W.heap.size := by
  rw [MakeChecks.laidMetH_plain _ _ _ (by kernel_rfl)] at h
  have h3 : laidMet Tryz.prog (("internal/strconv.uint64pow10", Lib.tabData .u64 Lib.pow10Tab) :: []) W := h.tail.tail
  have hT := Lib.tabIs_of_head gTab tTab Tryz.underlying122 Tryz.underlying107 (by kernel_rfl) (by kernel_rfl) h3
  refine ⟨hT, fun g e => ?_⟩
  have h1 := hT
  unfold Lib.TabIs World.var? at h1
  rw [e] at h1
  simp only [Option.bind_some] at h1
  rcases Nat.lt_or_ge g W.heap.size with z | z
  · exact z
  · rw [Array.getElem?_eq_none z] at h1; cases h1
theorem door_met (os : Os) (args : Array Value) : laidMetH Tryz.prog laid3 ((World.doorLaid Tryz.prog 400 os).forCall (fun _ _ => 0) ⟨#[], args, []⟩).memory :=
  laidMetH_of_parts3 (fuel := 8) (laidMet_of_run' 8 (by kernel_rfl) (by kernel_rfl)) (by kernel_rfl) (by kernel_rfl)
end Go.Proofs.YtlbpjcphhocdkabGreatDoor
