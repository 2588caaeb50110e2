/- The statements' own functions over what was read: is it this block, is it nothing. -/
import Derived.Test.YtlbpjcphhocdkaaKp2
namespace Go.Proofs.Ytlbpjcphhocdkaa
open Go.RowKit

theorem str_inj {a b : ByteArray} (h : a.data.toList = b.data.toList) : a = b := (str_eq a b.data.toList).2 h |>.trans (Is.self b).symm
theorem datas_inj : ∀ {a b : List ByteArray}, datas a = datas b → a = b
  | [], [], _ => rfl
  | [], _ :: _, h => by simp [datas] at h
  | _ :: _, [], h => by simp [datas] at h
  | x :: a, y :: b, h => by
    simp only [datas, List.map_cons, List.cons.injEq] at h
    rw [str_inj h.1, datas_inj (a := a) (b := b) h.2]

set_option maxHeartbeats 2000000 in
theorem same_any (h : ByteArray) (a a2 : Option Addr) (l : List ByteArray) (cap cap2 : Nat) (c t : Bool) (w : World) (hn : l.length ≤ 9000000000000) (ht : Texts w a l) (ht2 : Texts w a2 l) :
    Calls Try.prog 31 #[.agg #[.int .i64 2, .string h, .slice a2 l.length cap2, .bool c, .bool t], .agg #[.string h, .slice a l.length cap, .bool c, .bool t]] w fun e w' => e = .returned (.bool true) ∧ Below w.heap.size w w' := by
  have hneq : ((l.length : Int) != (l.length : Int)) = false := by simp
  have hce : (c != c) = false := by cases c <;> rfl
  have hte : (t != t) = false := by cases t <;> rfl
  go_enter Try.func31, Try.ntmps31
  have hb1 : Below w.heap.size w (w.alloc (.cells #[.int .i64 2, .string h, .slice a2 l.length cap2, .bool c, .bool t] 36)) := (Below.refl _ _).alloc (Nat.le_refl _) _
  have hb2 := hb1.alloc (by simp) (.cells #[.string h, .slice a l.length cap, .bool c, .bool t] 30)
  have hb3 := hb2.alloc (by simp; omega) (.cells #[.string h, .slice a2 l.length cap2, .bool c, .bool t] 30)
  have hB1 := blk_alloc (BlkAt.new (w.alloc (.cells #[.int .i64 2, .string h, .slice a2 l.length cap2, .bool c, .bool t] 36)) (.string h) (.slice a l.length cap) (.bool c) (.bool t)) (.cells #[.string h, .slice a2 l.length cap2, .bool c, .bool t] 30)
  have hB2 := BlkAt.new ((w.alloc (.cells #[.int .i64 2, .string h, .slice a2 l.length cap2, .bool c, .bool t] 36)).alloc (.cells #[.string h, .slice a l.length cap, .bool c, .bool t] 30)) (.string h) (.slice a2 l.length cap2) (.bool c) (.bool t)
  have HT := hide (ht.below hb3)
  have HT2 := hide (ht2.below hb3)
  have HB3 := hide hb3
  have HB1 := hide hB1
  have HB2 := hide hB2
  clear hb1 hb2 hb3 hB1 hB2 ht ht2
  simp only [World.size_alloc] at HB1 HB2
  go_wp2
  generalize hW : ((w.alloc (.cells #[.int .i64 2, .string h, .slice a2 l.length cap2, .bool c, .bool t] 36)).alloc (.cells #[.string h, .slice a l.length cap, .bool c, .bool t] 30)).alloc (.cells #[.string h, .slice a2 l.length cap2, .bool c, .bool t] 30) = W at *
  clear hW
  have f1 := HB1.out.cell1
  have f2 := HB2.out.cell1
  go_loopw [6] (fun i wr => ∃ k : Nat, k ≤ l.length ∧ i = .int .i64 k ∧ ∃ n, wr = W.drewN n) (fun i _ => l.length - (intOf i).toNat)
  case atStart => exact ⟨0, by omega, rfl, 0, rfl⟩
  case round =>
    obtain ⟨k, hk, rfl, n, rfl⟩ := hrel
    by_cases hlt : k < l.length
    · have hlt' : (k : Int) < (l.length : Int) := by omega
      have hk0 : (0 : Int) ≤ (k : Int) := by omega
      obtain ⟨b, o, rfl, hc⟩ : ∃ b o, a = some ⟨b, o, none⟩ ∧ W.cell? ⟨b, o + k, none⟩ = some (.string (l.getD k ByteArray.empty)) := by
        rcases HT.out with h | ⟨b, o, ha, h⟩
        · subst h; simp at hlt
        · exact ⟨b, o, ha, h k hlt⟩
      obtain ⟨b2, o2, rfl, hc2⟩ : ∃ b o, a2 = some ⟨b, o, none⟩ ∧ W.cell? ⟨b, o + k, none⟩ = some (.string (l.getD k ByteArray.empty)) := by
        rcases HT2.out with h | ⟨b, o, ha, h⟩
        · subst h; simp at hlt
        · exact ⟨b, o, ha, h k hlt⟩
      generalize l.getD k ByteArray.empty = s at *
      go_wp2
      go_quiet (fail)
      go_wp2
      go_roundw
      case rel => exact ⟨k + 1, by omega, by go_num, _, rfl⟩
      case measure => simp [intOf]; omega
    · have hlt' : ¬ (k : Int) < (l.length : Int) := by omega
      go_wp2
      go_ret
      exact ⟨rfl, below_drewN HB3.out n⟩

set_option maxHeartbeats 1000000 in
theorem empty_any (n : Nat) (w : World) (hn : n = 0 ∨ n = 1) :
    Calls Try.prog 33 #[zHeard n] w fun e w' => e = .returned (.bool true) ∧ Below w.heap.size w w' := by
  rcases hn with rfl | rfl
  all_goals
    unfold zHeard
    go_enter Try.func33, Try.ntmps33
    go_wp2
    go_ret
    exact ⟨rfl, ((Below.refl _ _).alloc (Nat.le_refl _) _).alloc (by simp) _⟩
end Go.Proofs.Ytlbpjcphhocdkaa
