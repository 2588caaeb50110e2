/-Fair: what is said ahead of the first tick; no message fails. -/
import Derived.Test.YtlbpjcphhocdkabGreatDoorGPri
namespace Go.Proofs.YtlbpjcphhocdkabGreatDoor
set_option maxRecDepth 1000000
open Go.RowKit Go.Proofs.YtlbpjcphhocdkabGreatDoor.Mod Go.Proofs.YtlbpjcphhocdkabGreatDoor.Pst Go.Proofs.YtlbpjcphhocdkabGreatDoor.Run

/-- i messages of station 0, j of station 1. -/
def FaS (w0 : World) (A : RA) (q i j : Nat) (W : World) : Prop := ∃ r, Hs w0 W A r ∧ St0 i j r ∧ r.x.c.queue = q
def FaL (w0 : World) (A : RA) (k : Nat) (W : World) : Prop := ∃ r, Hs w0 W A r ∧ Fg 10 r ∧ FL r k
theorem said_c (r : R) (st : Int) (m : Msg) : (saidR r st m).x.c = r.x.c := by
  unfold saidR
  split
  · exact submitL_c _ _ _
  · rfl
/-- Nothing fails. -/
theorem no_fail {r : R} (h0 : ¬ fails (did0 r.x)) (h1 : ¬ fails (did1 r.x)) : ∀ e ∈ events r.x, e.kind ≠ 3 := by
  intro e he k
  unfold events at he
  rcases List.mem_append.1 he with z | z
  · exact h0 ⟨e, Option.mem_toList.1 z, k⟩
  · exact h1 ⟨e, Option.mem_toList.1 z, k⟩
theorem Fg.of {i j : Nat} {r : R} (h : St0 i j r) (hi : i ≤ 10) (hj : j ≤ 10) : Fg 10 r := ⟨h.ok, h.fits, by rw [h.la]; exact hi, by rw [h.lb]; exact hj⟩
end Go.Proofs.YtlbpjcphhocdkabGreatDoor
