/- A line of every configuration comes out just where the document says so, and its stations are the document's. -/
import Derived.Test.YtlbpjcphhocdkaaOp2
import Derived.Laws.StructEq
namespace Go.Proofs.Ytlbpjcphhocdkaa
set_option maxRecDepth 1000000
open Go.RowKit Go.Proofs.Ytlbpjcphhocdkaa.Mod Go.Proofs.Ytlbpjcphhocdkaa.Pst

theorem guardView : Try.prog.eqGuardType Try.prog.depth 114 = false := by kernel_rfl
set_option maxHeartbeats 1000000 in
theorem eqView (a b a' b' : Int) (c c' : Bool) (w : World) : (Op.equalIn 10000 114 (.agg #[.int .i64 a, .int .i64 b, .bool c]) (.agg #[.int .i64 a', .int .i64 b', .bool c'])).run Try.prog w = .ok (a == a' && (b == b' && c == c')) w := by
  have u9 := Try.underlying3
  have a9 := Try.isAgg3
  have z9 := Try.sizeOf3
  have u4 := Try.underlying4
  have a4 := Try.isAgg4
  have z4 := Try.sizeOf4
  have hS : Try.prog.underlying 114 = some (.struct (Try.prog.fieldsOf 114)) := by kernel_rfl
  have hp : Try.prog.stoodInHeld 114 = false := by kernel_rfl
  rw [show (10000 : Nat) = 9999 + 1 from rfl, run_equalIn_agg w 9999 114 _ _ hS hp]
  simp only [Program.fieldsOf, Try.underlying114]
  go_simp
  by_cases h1 : a = a' <;> by_cases h2 : b = b' <;> by_cases h3 : c = c' <;> simp [h1, h2, h3]
theorem eqView_same (a b : Int) (c : Bool) (w : World) : (Op.equalIn 10000 114 (.agg #[.int .i64 a, .int .i64 b, .bool c]) (.agg #[.int .i64 a, .int .i64 b, .bool c])).run Try.prog w = .ok true w := by
  rw [eqView]; simp

/-- A pair: a line, and the document's. -/
def PairAt (w : World) (g xb yb : Nat) : Prop := w.heap[g]? = some (.cells #[.pointer (some ⟨xb, 0, none⟩), .pointer (some ⟨yb, 0, none⟩)] 87 (0, 0))

set_option maxHeartbeats 1000000 in
theorem seen_any (g xb yb : Nat) (st : Int) (m q : Int) (y : Bool) (w : World) (hp : PairAt w g xb yb)
    (h1 : ∀ w', Below w.heap.size w w' → Calls Try.prog 83 #[.pointer (some ⟨xb, 0, none⟩), .int .i64 st] w' fun e w'' => e = .returned (.agg #[.int .i64 m, .int .i64 q, .bool y]) ∧ Below w'.heap.size w' w'')
    (h2 : ∀ w', Below w.heap.size w w' → Calls Try.prog 84 #[.pointer (some ⟨yb, 0, none⟩), .int .i64 st] w' fun e w'' => e = .returned (.agg #[.int .i64 m, .int .i64 q, .bool y]) ∧ Below w'.heap.size w' w'') :
    Calls Try.prog 71 #[.pointer (some ⟨g, 0, none⟩), .int .i64 st] w fun e w' => e = .returned (.bool true) ∧ Below w.heap.size w w' := by
  have H1 := hide h1
  have H2 := hide h2
  have HP := hide hp
  have hlt := lt_of_block hp
  have c0 := (cells_at hp).1 0
  simp only [List.getElem?_toArray, List.getElem?_cons_zero] at c0
  clear h1 h2 hp
  go_enter Try.func71, Try.ntmps71
  go_wp2_with fail
  refine (H1.out _ (Below.refl _ _)).mono ?_
  rintro e w1 ⟨rfl, hb1⟩
  have HB1 := hide hb1
  have hp1 : PairAt w1 g xb yb := (hb1.block _ hlt).trans HP.out
  have c1 := (cells_at hp1).1 1
  simp only [List.getElem?_toArray, List.getElem?_cons_succ, List.getElem?_cons_zero] at c1
  have hlt1 := lt_of_block hp1
  have hne1 : g ≠ w1.heap.size := by omega
  clear hb1 c0
  go_wp2_with fail
  have X0 := VwAt.new w1 (.int .i64 m) (.int .i64 q) (.bool y)
  have HA := hide (Below.allocN HB1.out (.cells #[.int .i64 m, .int .i64 q, .bool y] 114))
  generalize w1.alloc (.cells #[.int .i64 m, .int .i64 q, .bool y] 114) = W1 at *
  refine (H2.out _ HA.out).mono ?_
  rintro e w2 ⟨rfl, hb2⟩
  have hg1 := lt_of_block X0
  have X2 : VwAt w2 w1.heap.size (.int .i64 m) (.int .i64 q) (.bool y) := (hb2.block _ hg1).trans X0
  have hg2 := lt_of_block X2
  have hne2 : w1.heap.size ≠ w2.heap.size := by omega
  have v0 : w2.cell? ⟨w1.heap.size, 0, none⟩ = some (.int .i64 m) := by unfold VwAt at X2; simp [World.cell?, X2]
  have v1 : w2.cell? ⟨w1.heap.size, 1, none⟩ = some (.int .i64 q) := by unfold VwAt at X2; simp [World.cell?, X2]
  have v2 : w2.cell? ⟨w1.heap.size, 2, none⟩ = some (.bool y) := by unfold VwAt at X2; simp [World.cell?, X2]
  have HB2 := hide (below_step HA.out hb2)
  have hq := eqView_same m q y
  have hm := guardView
  clear hb2 X0 X2 HA c1 hp1
  go_wp2
  go_ret
  exact ⟨rfl, Below.allocN HB2.out _⟩

set_option maxHeartbeats 1000000 in
theorem heard_pair (g xb yb : Nat) (st : Int) (s : ByteArray) (w : World) (hp : PairAt w g xb yb)
    (h1 : ∀ w', Below w.heap.size w w' → Calls Try.prog 85 #[.pointer (some ⟨xb, 0, none⟩), .int .i64 st] w' fun e w'' => e = .returned (.string s) ∧ Below w'.heap.size w' w'')
    (h2 : ∀ w', Below w.heap.size w w' → Calls Try.prog 86 #[.pointer (some ⟨yb, 0, none⟩), .int .i64 st] w' fun e w'' => e = .returned (.string s) ∧ Below w'.heap.size w' w'') :
    Calls Try.prog 72 #[.pointer (some ⟨g, 0, none⟩), .int .i64 st] w fun e w' => e = .returned (.bool true) ∧ Below w.heap.size w w' := by
  have H1 := hide h1
  have H2 := hide h2
  have HP := hide hp
  have hlt := lt_of_block hp
  have c0 := (cells_at hp).1 0
  simp only [List.getElem?_toArray, List.getElem?_cons_zero] at c0
  clear h1 h2 hp
  go_enter Try.func72, Try.ntmps72
  go_wp2_with fail
  refine (H1.out _ (Below.refl _ _)).mono ?_
  rintro e w1 ⟨rfl, hb1⟩
  have HB1 := hide hb1
  have hp1 : PairAt w1 g xb yb := (hb1.block _ hlt).trans HP.out
  have c1 := (cells_at hp1).1 1
  simp only [List.getElem?_toArray, List.getElem?_cons_succ, List.getElem?_cons_zero] at c1
  clear hb1 c0 hp1
  go_wp2_with fail
  refine (H2.out _ HB1.out).mono ?_
  rintro e w2 ⟨rfl, hb2⟩
  have HB2 := hide (below_step HB1.out hb2)
  clear hb2 c1
  go_wp2
  go_ret
  exact ⟨by simp, HB2.out⟩

set_option maxHeartbeats 1000000 in
theorem looks_any (g : Nat) (w : World)
    (h : ∀ (st : Int) w', st = 0 ∨ st = 1 → Below w.heap.size w w' → (Calls Try.prog 71 #[.pointer (some ⟨g, 0, none⟩), .int .i64 st] w' fun e w'' => e = .returned (.bool true) ∧ Below w'.heap.size w' w'') ∧ (Calls Try.prog 72 #[.pointer (some ⟨g, 0, none⟩), .int .i64 st] w' fun e w'' => e = .returned (.bool true) ∧ Below w'.heap.size w' w'')) :
    Calls Try.prog 53 #[.pointer (some ⟨g, 0, none⟩)] w fun e w' => e = .returned (.bool true) ∧ Below w.heap.size w w' := by
  have H := hide h
  clear h
  go_enter Try.func53, Try.ntmps53
  go_wp2_with fail
  refine ((H.out 0 _ (Or.inl rfl) (Below.refl _ _)).1).mono ?_
  rintro e w1 ⟨rfl, hb1⟩
  have HB1 := hide hb1
  clear hb1
  go_wp2_with fail
  refine ((H.out 1 _ (Or.inr rfl) HB1.out).1).mono ?_
  rintro e w2 ⟨rfl, hb2⟩
  have HB2 := hide (below_step HB1.out hb2)
  clear hb2
  go_wp2_with fail
  refine ((H.out 0 _ (Or.inl rfl) HB2.out).2).mono ?_
  rintro e w3 ⟨rfl, hb3⟩
  have HB3 := hide (below_step HB2.out hb3)
  clear hb3
  go_wp2_with fail
  refine ((H.out 1 _ (Or.inr rfl) HB3.out).2).mono ?_
  rintro e w4 ⟨rfl, hb4⟩
  have HB4 := hide (below_step HB3.out hb4)
  clear hb4
  go_wp2
  go_ret
  exact ⟨rfl, HB4.out⟩

end Go.Proofs.Ytlbpjcphhocdkaa
