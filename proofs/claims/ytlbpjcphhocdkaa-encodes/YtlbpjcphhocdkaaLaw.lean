/- The law's own functions over lists of texts: a list with spare room in which marks stand, and whether it is still so. -/
import Derived.Test.YtlbpjcphhocdkaaEnc4
import Derived.Laws.CopyOwn
namespace Go.Proofs.Ytlbpjcphhocdkaa
set_option maxRecDepth 1000000
open Go.RowKit Go.Joins

def markS : ByteArray := ⟨#[116, 104, 101, 32, 99, 97, 108, 108, 101, 114, 39, 115]⟩


theorem run_make_str (w : World) (n : Nat) (m : Int) (hm : m = (n : Int)) (hn : n ≤ 10000000000000) :
    (Instr.makeSlice 28 (.int .i64 m) (.int .i64 m)).run Try.prog w = .ok (.slice (some ⟨w.heap.size, 0, none⟩) n n) (w.alloc (.cells (List.replicate n (Value.string ⟨#[]⟩)).toArray 9)) := by
  obtain ⟨i0, hi, hz0, hz1, hz2⟩ := info_parts Try.infoStr
  subst hm
  have h := run_make (P := Try.prog) w 28 9 i0 (.string ⟨#[]⟩) Try.underlying28 hi hz0 .i64 .i64 n n (by omega) (by omega) (by rw [hz2]; omega) (by omega)
  rw [h, hz1]
  simp only [Int.toNat_natCast, Nat.mul_one]
  congr 3
  apply Array.ext'
  have := toList_madeCells_one (.string ⟨#[]⟩) n
  rw [show (Value.string ⟨#[]⟩).cells = #[.string ⟨#[]⟩] from rfl, this]

/-- Block g holds the texts l and two marks behind them. -/
def Roomy (w : World) (g : Nat) (l : List ByteArray) : Prop := w.heap[g]? = some (.cells (l.map Value.string ++ [Value.string markS, Value.string markS]).toArray 9 (0, 0))

theorem texts_src {w : World} {a : Option Addr} {l : List ByteArray} (h : Texts w a l) (h0 : 0 < (l.map Value.string).length) :
    ∃ ad, a = some ad ∧ ∀ j v, (l.map Value.string)[j]? = some v → w.cell? (ad.add j) = some v := by
  rcases h with h | ⟨b, o, rfl, h⟩
  · subst h; simp at h0
  · refine ⟨_, rfl, fun j v hj => ?_⟩
    rw [List.getElem?_map] at hj
    cases hl : l[j]? with
    | none => rw [hl] at hj; simp at hj
    | some s =>
      rw [hl] at hj
      simp at hj
      subst hj
      have hjl : j < l.length := (List.getElem?_eq_some_iff.1 hl).1
      rw [Addr.add_lit, h j hjl]
      simp [List.getD, hl]

theorem splice_eq (l : List ByteArray) (e : Value) : splice (List.replicate (l.length + 2) e) 0 (l.map Value.string) = l.map Value.string ++ [e, e] := by
  unfold splice
  simp [List.drop_replicate]

theorem splice_room {w : World} {g : Nat} {l : List ByteArray} (h : w.heap[g]? = some (.cells (splice (List.replicate (l.length + 2) (Value.string ⟨#[]⟩)) 0 (l.map Value.string)).toArray 9 (0, 0))) :
    w.cell? ⟨g, l.length, none⟩ = some (.string ⟨#[]⟩) ∧ w.cell? ⟨g, l.length + 1, none⟩ = some (.string ⟨#[]⟩) ∧ w.frozen? ⟨g, l.length, none⟩ = false ∧ w.frozen? ⟨g, l.length + 1, none⟩ = false ∧
    Roomy ((w.setCell ⟨g, l.length, none⟩ (.string markS)).setCell ⟨g, l.length + 1, none⟩ (.string markS)) g l := by
  rw [splice_eq] at h
  refine ⟨?_, ?_, unfrozen_of_block h _, unfrozen_of_block h _, ?_⟩
  · rw [cell_of_block h]; simp
  · rw [cell_of_block h]; simp
  · have h1 := block_setCell (i := l.length) h (.string markS)
    have h2 := block_setCell (i := l.length + 1) h1 (.string markS)
    unfold Roomy
    rw [h2]
    simp

set_option maxHeartbeats 1000000 in
theorem roomy_any (a : Option Addr) (l : List ByteArray) (cap : Nat) (w : World) (hn : l.length ≤ 9000000000000) (ht : Texts w a l) :
    Calls Try.prog 16 #[.slice a l.length cap] w fun e w' => e = .returned (.slice (some ⟨w.heap.size, 0, none⟩) l.length (l.length + 2)) ∧ Roomy w' w.heap.size l ∧ Below w.heap.size w w' := by
  have hmk := run_make_str w (l.length + 2) ((l.length : Int) + 2) (by omega) (by omega)
  have hg0 : (w.alloc (.cells (List.replicate (l.length + 2) (Value.string ⟨#[]⟩)).toArray 9)).heap[w.heap.size]? = some (.cells (List.replicate (l.length + 2) (Value.string ⟨#[]⟩)).toArray 9 (0, 0)) := heap_alloc_new w _
  have hb0 : Below w.heap.size w (w.alloc (.cells (List.replicate (l.length + 2) (Value.string ⟨#[]⟩)).toArray 9)) := (Below.refl _ _).alloc (Nat.le_refl _) _
  have ht1 := ht.below hb0
  generalize hW : w.alloc (.cells (List.replicate (l.length + 2) (Value.string ⟨#[]⟩)).toArray 9) = W0 at *
  have HG := hide hg0
  have HT1 := hide ht1
  clear hW hg0 ht1 ht
  go_enter Try.func16, Try.ntmps16
  have a1 : (l.map Value.string).length = Nat.min l.length (l.length + 2) := by simp only [List.length_map]; exact (Nat.min_eq_left (by omega)).symm
  have a3 : 0 + (l.map Value.string).length ≤ (List.replicate (l.length + 2) (Value.string ⟨#[]⟩)).length := by simp
  have a4 : ∀ v ∈ l.map Value.string, v.oneCell' = true := by intro v hv; obtain ⟨s, _, rfl⟩ := List.mem_map.1 hv; rfl
  have A1 := hide a1
  have A3 := hide a3
  have A4 := hide a4
  clear a1 a3 a4
  go_wp2_with (first | (refine wpList_copy_splice rfl (.tmp 10) (.tmp 11) 28 28 rfl 9 Try.underlying28 Try.sizeStr (some ⟨w.heap.size, 0, none⟩) a (l.length + 2) (l.length + 2) l.length cap rfl rfl w.heap.size 0 _ 9 HG.out (l.map Value.string) A1.out (fun h0 => ⟨rfl, texts_src HT1.out h0⟩) A3.out A4.out w.heap.size w hb0 (Nat.le_refl _) ?_; intro w1 HB1 hb1; have hr1 := splice_room HB1.out; have k0 := hr1.1; have k1 := hr1.2.1; have k2 := hr1.2.2.1; have k3 := hr1.2.2.2.1; have KR := hide hr1.2.2.2.2; clear hr1))
  go_ret
  exact ⟨rfl, KR.out, (hb1.setCell (Nat.le_refl _) _).setCell (Nat.le_refl _) _⟩

set_option maxHeartbeats 1000000 in
theorem sameTexts_any (a a2 : Option Addr) (l : List ByteArray) (cap cap2 : Nat) (w : World) (hn : l.length ≤ 9000000000000) (ht : Texts w a l) (ht2 : Texts w a2 l) :
    Calls Try.prog 45 #[.slice a l.length cap, .slice a2 l.length cap2] w fun e w' => e = .returned (.bool true) ∧ ∃ n, w' = w.drewN n := by
  have HT := hide ht
  have HT2 := hide ht2
  clear ht ht2
  have hne : ((l.length : Int) != (l.length : Int)) = false := by simp
  go_enter Try.func45, Try.ntmps45
  go_wp2
  go_loopw [5] (fun i wr => ∃ k : Nat, k ≤ l.length ∧ i = .int .i64 k ∧ ∃ n, wr = w.drewN n) (fun i _ => l.length - (intOf i).toNat)
  case atStart => exact ⟨0, by omega, rfl, 0, rfl⟩
  case round =>
    obtain ⟨k, hk, rfl, n, rfl⟩ := hrel
    by_cases hlt : k < l.length
    · have hlt' : (k : Int) < (l.length : Int) := by omega
      have hk0 : (0 : Int) ≤ (k : Int) := by omega
      obtain ⟨b, o, rfl, hc⟩ : ∃ b o, a = some ⟨b, o, none⟩ ∧ w.cell? ⟨b, o + k, none⟩ = some (.string (l.getD k ByteArray.empty)) := by
        rcases HT.out with h | ⟨b, o, ha, h⟩
        · subst h; simp at hlt
        · exact ⟨b, o, ha, h k hlt⟩
      obtain ⟨b2, o2, rfl, hc2⟩ : ∃ b o, a2 = some ⟨b, o, none⟩ ∧ w.cell? ⟨b, o + k, none⟩ = some (.string (l.getD k ByteArray.empty)) := by
        rcases HT2.out with h | ⟨b, o, ha, h⟩
        · subst h; simp at hlt
        · exact ⟨b, o, ha, h k hlt⟩
      generalize l.getD k ByteArray.empty = s at *
      go_wp2
      go_quiet (fail)
      go_wp2
      go_roundw
      case rel => exact ⟨k + 1, by omega, by go_num, _, rfl⟩
      case measure => simp [intOf]; omega
    · have hlt' : ¬ (k : Int) < (l.length : Int) := by omega
      go_wp2
      go_ret
      exact ⟨rfl, n, rfl⟩

theorem Roomy.texts {w : World} {g : Nat} {l : List ByteArray} (h : Roomy w g l) : Texts w (some ⟨g, 0, none⟩) l := by
  refine Or.inr ⟨g, 0, rfl, fun i hi => ?_⟩
  rw [cell_of_block h]
  simp [List.getElem?_append, hi, List.getD]
theorem Roomy.mark0 {w : World} {g : Nat} {l : List ByteArray} (h : Roomy w g l) : w.cell? ⟨g, l.length, none⟩ = some (.string markS) := by
  rw [cell_of_block h]; simp
theorem Roomy.mark1 {w : World} {g : Nat} {l : List ByteArray} (h : Roomy w g l) : w.cell? ⟨g, l.length + 1, none⟩ = some (.string markS) := by
  rw [cell_of_block h]; simp

set_option maxHeartbeats 1000000 in
theorem still_any (g : Nat) (a : Option Addr) (l : List ByteArray) (cap : Nat) (w : World) (hn : l.length ≤ 9000000000000) (hr : Roomy w g l) (ht : Texts w a l) :
    Calls Try.prog 19 #[.slice (some ⟨g, 0, none⟩) l.length (l.length + 2), .slice a l.length cap] w fun e w' => e = .returned (.bool true) ∧ ∃ n, w' = w.drewN n := by
  have k0 := hr.mark0
  have k1 := hr.mark1
  have HT := hide hr.texts
  have HT2 := hide ht
  unfold markS at k0 k1
  clear ht hr
  go_enter Try.func19, Try.ntmps19
  go_wp2_with (first | (go_at_call 45; refine (sameTexts_any _ _ l _ _ _ hn HT.out HT2.out).mono ?_; rintro e w1 ⟨rfl, n1, rfl⟩))
  go_ret
  exact ⟨rfl, _, rfl⟩
end Go.Proofs.Ytlbpjcphhocdkaa
