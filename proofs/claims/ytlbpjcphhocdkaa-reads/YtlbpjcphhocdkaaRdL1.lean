/- The law Reads: its own functions: are two answers the same, a list written full, does it still hold marks alone. -/
import Derived.Test.YtlbpjcphhocdkaaRd6
import Derived.Test.YtlbpjcphhocdkaaLaw
namespace Go.Proofs.Ytlbpjcphhocdkaa
open Go.RowKit

set_option maxHeartbeats 2000000 in
theorem sameHeard_any (n : Nat) (h : ByteArray) (a a2 : Option Addr) (l : List ByteArray) (cap cap2 : Nat) (c t : Bool) (w : World) (hn : l.length ≤ 9000000000000) (ht : Texts w a l) (ht2 : Texts w a2 l) :
    Calls Try.prog 22 #[.agg #[.int .i64 n, .string h, .slice a l.length cap, .bool c, .bool t], .agg #[.int .i64 n, .string h, .slice a2 l.length cap2, .bool c, .bool t]] w fun e w' => e = .returned (.bool true) ∧ Below w.heap.size w w' := by
  have hce : (c == c) = true := by cases c <;> rfl
  have hte : (t == t) = true := by cases t <;> rfl
  have hne : ((n : Int) == (n : Int)) = true := by simp
  have hb1 : Below w.heap.size w (w.alloc (.cells #[.int .i64 n, .string h, .slice a l.length cap, .bool c, .bool t] 36)) := (Below.refl _ _).alloc (Nat.le_refl _) _
  have hb2 := hb1.alloc (by simp) (.cells #[.int .i64 n, .string h, .slice a2 l.length cap2, .bool c, .bool t] 36)
  have HT := hide (ht.below hb2)
  have HT2 := hide (ht2.below hb2)
  have HB2 := hide hb2
  clear hb1 hb2 ht ht2
  go_enter Try.func22, Try.ntmps22
  go_wp2_with (first | (go_at_call 45; refine (sameTexts_any _ _ l _ _ _ hn HT.out HT2.out).mono ?_; rintro e w1 ⟨rfl, n1, rfl⟩))
  go_ret
  exact ⟨rfl, below_drewN HB2.out _⟩

/-- The list at block g holds marks alone, up to cap. -/
def MarkTo (w : World) (g cap k : Nat) : Prop := ∃ cur, w.heap[g]? = some (.cells cur 9 (0, 0)) ∧ cur.size = cap ∧ ∀ j, j < k → cur[j]? = some (.string markS)
theorem MarkTo.step {w : World} {g cap k : Nat} (h : MarkTo w g cap k) (hk : k < cap) : MarkTo (w.setCell ⟨g, k, none⟩ (.string markS)) g cap (k + 1) := by
  obtain ⟨cur, hg, hc, hm⟩ := h
  refine ⟨cur.setIfInBounds k (.string markS), Go.Joins.block_setCell (i := k) hg (.string markS), by simpa using hc, fun j hj => ?_⟩
  by_cases hjk : j = k
  · subst hjk; simp [hc, hk]
  · rw [Array.getElem?_setIfInBounds_ne (by omega)]
    exact hm j (by omega)
theorem MarkTo.cell {w : World} {g cap k j : Nat} (h : MarkTo w g cap k) (hj : j < cap) : (∃ v, w.cell? ⟨g, j, none⟩ = some v) ∧ w.frozen? ⟨g, j, none⟩ = false := by
  obtain ⟨cur, hg, hc, hm⟩ := h
  refine ⟨⟨cur[j], ?_⟩, Go.Joins.unfrozen_of_block hg j⟩
  rw [cell_of_row _ _ _ _ _ _ hg]
  exact Array.getElem?_eq_getElem (by omega)
theorem MarkTo.mark {w : World} {g cap k j : Nat} (h : MarkTo w g cap k) (hj : j < k) : w.cell? ⟨g, j, none⟩ = some (.string markS) := by
  obtain ⟨cur, hg, hc, hm⟩ := h
  rw [cell_of_row _ _ _ _ _ _ hg]
  exact hm j hj
theorem MarkTo.keep {w w' : World} {g cap k : Nat} (h : MarkTo w g cap k) (hb : w'.heap[g]? = w.heap[g]?) : MarkTo w' g cap k := by
  obtain ⟨cur, hg, hc, hm⟩ := h
  exact ⟨cur, hb.trans hg, hc, hm⟩
theorem MarkTo.lt {w : World} {g cap k : Nat} (h : MarkTo w g cap k) : g < w.heap.size := by
  obtain ⟨cur, hg, _⟩ := h
  exact lt_of_block hg

/-- A list as an answer has it: nil, or a row of its own. -/
theorem OwnS.row {w : World} {B : Nat} {v : Value} {l : List ByteArray} (h : OwnS w B v l) : (v = .slice none 0 0 ∧ l = []) ∨ ∃ g cap, v = .slice (some ⟨g, 0, none⟩) l.length cap ∧ B ≤ g ∧ l.length ≤ cap ∧ cap ≤ maxLen ∧ MarkTo w g cap 0 := by
  rcases h.2 with ⟨rfl, h0⟩ | ⟨g, cap, cur, rfl, hB, hh, h1, h2, h3, h4⟩
  · exact Or.inl ⟨rfl, List.eq_nil_of_length_eq_zero h0⟩
  · exact Or.inr ⟨g, cap, rfl, hB, h1, h2, cur, hh, by simpa using h3, fun j hj => by omega⟩

set_option maxHeartbeats 2000000 in
theorem written_row (g n cap : Nat) (w : World) (hn : n ≤ cap) (hm : cap ≤ maxLen) (hr : MarkTo w g cap 0) :
    Calls Try.prog 23 #[.slice (some ⟨g, 0, none⟩) n cap] w fun e w' => e = .returned (.slice (some ⟨g, 0, none⟩) cap cap) ∧ MarkTo w' g cap cap ∧ w'.heap.size = w.heap.size ∧ (∀ k, k ≠ g → w'.heap[k]? = w.heap[k]?) ∧ w'.os = w.os ∧ w'.tape = w.tape ∧ w'.output = w.output := by
  have hm2 : cap ≤ 9223372036854775807 := by unfold maxLen at hm; omega
  have HR := hide hr
  clear hr hm
  unfold markS at *
  go_enter Try.func23, Try.ntmps23
  go_wp2
  go_loopw [4] (fun i wr => ∃ k : Nat, k ≤ cap ∧ i = .int .i64 k ∧ MarkTo wr g cap k ∧ wr.heap.size = w.heap.size ∧ Hid (∀ k, k ≠ g → wr.heap[k]? = w.heap[k]?) ∧ wr.os = w.os ∧ wr.tape = w.tape ∧ wr.output = w.output) (fun i _ => cap - (intOf i).toNat)
  case atStart => exact ⟨0, by omega, rfl, HR.out, rfl, fun _ _ => rfl, rfl, rfl, rfl⟩
  case round =>
    obtain ⟨k, hk, rfl, hM, hz, HO, e1, e2, e3⟩ := hrel
    by_cases hlt : k < cap
    · have hlt' : (k : Int) < (cap : Int) := by omega
      have hk0 : (0 : Int) ≤ (k : Int) := by omega
      obtain ⟨⟨v, hc⟩, hf⟩ := hM.cell hlt
      have HM := hide hM
      have E1 := hide e1
      have E2 := hide e2
      have E3 := hide e3
      have HZ := hide hz
      clear hM e1 e2 e3 hz
      go_wp2
      go_roundw
      case rel => exact ⟨k + 1, by omega, by go_num, HM.out.step hlt, by simpa using HZ.out, fun j hj => (Below.heap_setCell _ _ _ _ (by simpa using hj)).trans (HO.out j hj), E1.out, E2.out, E3.out⟩
      case measure => simp [intOf]; omega
    · obtain rfl : k = cap := by omega
      have hlt' : ¬ (k : Int) < (k : Int) := by omega
      go_wp2
      go_ret
      exact ⟨rfl, hM, hz, HO.out, e1, e2, e3⟩

set_option maxHeartbeats 1000000 in
theorem written_nil (w : World) :
    Calls Try.prog 23 #[.slice none 0 0] w fun e w' => e = .returned (.slice none 0 0) ∧ w' = w := by
  go_enter Try.func23, Try.ntmps23
  go_wp2
  go_rounds 1
  all_goals go_wp2
  all_goals go_ret
  all_goals exact ⟨rfl, rfl⟩

set_option maxHeartbeats 1000000 in
theorem marked_nil (w : World) :
    Calls Try.prog 24 #[.slice none 0 0] w fun e w' => e = .returned (.bool true) ∧ w' = w := by
  go_enter Try.func24, Try.ntmps24
  go_wp2
  go_rounds 1
  all_goals go_wp2
  all_goals go_ret
  all_goals exact ⟨rfl, rfl⟩

set_option maxHeartbeats 2000000 in
theorem marked_row (g cap : Nat) (w : World) (hm : cap ≤ maxLen) (hr : MarkTo w g cap cap) :
    Calls Try.prog 24 #[.slice (some ⟨g, 0, none⟩) cap cap] w fun e w' => e = .returned (.bool true) ∧ ∃ n, w' = w.drewN n := by
  have hm2 : cap ≤ 9223372036854775807 := by unfold maxLen at hm; omega
  have HR := hide hr
  clear hr hm
  go_enter Try.func24, Try.ntmps24
  go_wp2
  go_loopw [3] (fun i wr => ∃ k : Nat, k ≤ cap ∧ i = .int .i64 k ∧ ∃ n, wr = w.drewN n) (fun i _ => cap - (intOf i).toNat)
  case atStart => exact ⟨0, by omega, rfl, 0, rfl⟩
  case round =>
    obtain ⟨k, hk, rfl, n, rfl⟩ := hrel
    by_cases hlt : k < cap
    · have hlt' : (k : Int) < (cap : Int) := by omega
      have hk0 : (0 : Int) ≤ (k : Int) := by omega
      have hc := HR.out.mark hlt
      unfold markS at hc
      go_wp2
      go_roundw
      case rel => exact ⟨k + 1, by omega, by go_num, n, rfl⟩
      case measure => simp [intOf]; omega
    · have hlt' : ¬ (k : Int) < (cap : Int) := by omega
      go_wp2
      go_ret
      exact ⟨rfl, n, rfl⟩
end Go.Proofs.Ytlbpjcphhocdkaa
