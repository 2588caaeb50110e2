/- The law Cuts, walked: a transmission that is cut short is nothing; a block with something behind it is Torn; a short one is read as its kind. -/
import Derived.Test.YtlbpjcphhocdkaaBackW
namespace Go.Proofs.Ytlbpjcphhocdkaa
open Go.RowKit

theorem short_is (K : Nat) (w : World) (h1 : 3 ≤ K) (h2 : K ≤ 9) :
    Calls Try.prog 14 #[.int .i64 K] w fun e w' => ∃ x, e = .returned (.tuple #[.string x, .int .i64 0]) ∧ Hid (Is x ([22, 22] ++ sbody K ++ [255])) ∧ x.size = (sbody K).length + 3 ∧ Below w.heap.size w w' := by
  have f := sbody_facts K h1 h2
  have hne : ¬ sbody K = [] := by intro h; rw [h] at f; simp at f
  have eE : shortE K = 0 := by simp [shortE, hne]
  have eS : shortS K = [22, 22] ++ sbody K ++ [255] := by simp [shortS, hne]
  have h := short_any K w
  rw [eE, eS] at h
  refine h.mono ?_
  rintro e w' ⟨he, hb⟩
  refine ⟨_, he, Is.mk _, ?_, hb⟩
  rw [(Is.mk _).size]
  simp only [List.length_append, List.length_cons, List.length_nil]
  omega
theorem is_take {x : ByteArray} {l : List UInt8} (h : Is x l) (m : Nat) : Is (x.extract 0 m) (l.take m) := by
  have := is_cut x 0 m
  rw [h.data] at this
  simpa using this
end Go.Proofs.Ytlbpjcphhocdkaa
