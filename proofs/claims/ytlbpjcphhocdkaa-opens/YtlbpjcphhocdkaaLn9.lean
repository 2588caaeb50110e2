/- A line is made. -/
import Derived.Test.YtlbpjcphhocdkaaLn8
namespace Go.Proofs.Ytlbpjcphhocdkaa
open Go.RowKit Go.Proofs.Ytlbpjcphhocdkaa.Mod Go.Proofs.Ytlbpjcphhocdkaa.Pst

def newP (i : Nat) : PS := ⟨i, [], 0, false, [], 0, 0, 0, 0, 0, false, 0, [], [], 0⟩
theorem may_ok {c : Cfg} (h : c.Ok) : mayI c.check c.size c.parts c.queue c.first c.second c.reply c.lost c.tries c.waits = true := by
  have h1 := h.check; have h2 := h.size; have h3 := h.parts; have h4 := h.queue; have h5 := h.first; have h6 := h.second; have h7 := h.reply; have h8 := h.tries; have h9 := h.waits; have h10 := h.lost
  have e : ((c.tries : Int) + 2) * (c.reply : Int) + 2 = (((c.tries + 2) * c.reply + 2 : Nat) : Int) := by simp
  unfold mayI
  rw [e]
  simp only [Bool.and_eq_true, decide_eq_true_eq]
  omega
/-- Ten numbers within P7's bounds are a configuration. -/
theorem may_cfg (c0 c1 c2 c3 c4 c5 c6 c7 c8 c9 : Int) (h : mayI c0 c1 c2 c3 c4 c5 c6 c7 c8 c9 = true) : ∃ c : Cfg, c.Ok ∧ c0 = c.check ∧ c1 = c.size ∧ c2 = c.parts ∧ c3 = c.queue ∧ c4 = c.first ∧ c5 = c.second ∧ c6 = c.reply ∧ c7 = c.lost ∧ c8 = c.tries ∧ c9 = c.waits := by
  unfold mayI at h
  simp only [Bool.and_eq_true, decide_eq_true_eq] at h
  obtain ⟨⟨⟨⟨⟨a0, a1⟩, a2⟩, ⟨⟨a4, a5⟩, a45⟩, a6⟩, ⟨a3, a8⟩, a9⟩, a7⟩ := h
  have e8 : (c8.toNat : Int) = c8 := by omega
  have e6 : (c6.toNat : Int) = c6 := by omega
  have hm : (((c8.toNat + 2) * c6.toNat : Nat) : Int) = (c8 + 2) * c6 := by rw [Int.natCast_mul, Int.natCast_add, e8, e6]; rfl
  generalize (c8 + 2) * c6 = M at *
  refine ⟨⟨c0.toNat, c1.toNat, c2.toNat, c3.toNat, c4.toNat, c5.toNat, c6.toNat, c7.toNat, c8.toNat, c9.toNat⟩, ⟨?_, ?_, ?_, ?_, ?_, ?_, ?_, ?_, ?_, ?_⟩, ?_⟩
  all_goals (simp only; omega)

set_option maxHeartbeats 1000000 in
set_option maxRecDepth 1000000 in
theorem new_no (c0 c1 c2 c3 c4 c5 c6 c7 c8 c9 : Int) (w : World) (h : mayI c0 c1 c2 c3 c4 c5 c6 c7 c8 c9 = false) :
    Calls Try.prog 69 #[.agg #[.int .i64 c0, .int .i64 c1, .int .i64 c2, .int .i64 c3, .int .i64 c4, .int .i64 c5, .int .i64 c6, .int .i64 c7, .int .i64 c8, .int .i64 c9]] w fun e w' => e = .returned (.tuple #[.pointer none, .int .i64 6]) ∧ Below w.heap.size w w' := by
  have H := hide h
  clear h
  go_enter Try.func69, Try.ntmps69
  go_wp2_with fail
  refine (isConfig_any c0 c1 c2 c3 c4 c5 c6 c7 c8 c9 _).mono ?_
  rintro e w1 ⟨rfl, hb1⟩
  rw [H.out]
  have B1 := hide (below_step ((Below.refl w.heap.size w).alloc (Nat.le_refl _) (.cells #[.int .i64 c0, .int .i64 c1, .int .i64 c2, .int .i64 c3, .int .i64 c4, .int .i64 c5, .int .i64 c6, .int .i64 c7, .int .i64 c8, .int .i64 c9] 42)) hb1)
  clear hb1
  go_wp2
  go_ret2
  exact ⟨rfl, B1.out⟩

/-- The line's block, when it is new. -/
def NewBlk (W : World) (b : Nat) (c : Cfg) (x : Int) : Prop := W.heap[b]? = some (.cells #[.int .i64 c.check, .int .i64 c.size, .int .i64 c.parts, .int .i64 c.queue, .int .i64 c.first, .int .i64 c.second, .int .i64 c.reply, .int .i64 c.lost, .int .i64 c.tries, .int .i64 c.waits, .int .i64 0, .slice none 0 0, .int .i64 0, .bool false, .string ⟨#[]⟩, .int .i64 0, .int .i64 0, .int .i64 0, .int .i64 0, .int .i64 0, .bool false, .int .i64 0, .string ⟨#[]⟩, .string ⟨#[]⟩, .int .i64 0, .int .i64 x, .slice none 0 0, .int .i64 0, .bool false, .string ⟨#[]⟩, .int .i64 0, .int .i64 0, .int .i64 0, .int .i64 0, .int .i64 0, .bool false, .int .i64 0, .string ⟨#[]⟩, .string ⟨#[]⟩, .int .i64 0] 105 (0, 0))
theorem NewBlk.ln {W : World} {b : Nat} {c : Cfg} {F : Nat → Prop} (h : NewBlk W b c 1) (hF : F b) : LnAt W F b c (newP 0) (newP 1) := by
  have hc : ∀ i, W.cell? ⟨b, i, none⟩ = (#[.int .i64 c.check, .int .i64 c.size, .int .i64 c.parts, .int .i64 c.queue, .int .i64 c.first, .int .i64 c.second, .int .i64 c.reply, .int .i64 c.lost, .int .i64 c.tries, .int .i64 c.waits, .int .i64 0, .slice none 0 0, .int .i64 0, .bool false, .string ⟨#[]⟩, .int .i64 0, .int .i64 0, .int .i64 0, .int .i64 0, .int .i64 0, .bool false, .int .i64 0, .string ⟨#[]⟩, .string ⟨#[]⟩, .int .i64 0, .int .i64 1, .slice none 0 0, .int .i64 0, .bool false, .string ⟨#[]⟩, .int .i64 0, .int .i64 0, .int .i64 0, .int .i64 0, .int .i64 0, .bool false, .int .i64 0, .string ⟨#[]⟩, .string ⟨#[]⟩, .int .i64 0] : Array Value)[i]? := by
    intro i
    unfold NewBlk at h
    simp only [World.cell?, h]
    rfl
  have hz : ∀ j, W.frozen? ⟨b, j, none⟩ = false := fun j => Go.Joins.unfrozen_of_block h j
  refine ⟨⟨fun _ => False, fun _ => False, ⟨hc 10, ⟨_, hc 11, QAt.nil W _⟩, hc 12, hc 13, hc 14, hc 15, hc 16, hc 17, hc 18, hc 19, hc 20, hc 21, hc 22, hc 23, hc 24, hz, id⟩, ⟨hc 25, ⟨_, hc 26, QAt.nil W _⟩, hc 27, hc 28, hc 29, hc 30, hc 31, hc 32, hc 33, hc 34, hc 35, hc 36, hc 37, hc 38, hc 39, hz, id⟩, fun g h => h.elim, fun g h => h.elim, fun g h => h.elim⟩, ⟨hc 0, hc 1, hc 2, hc 3, hc 4, hc 5, hc 6, hc 7, hc 8, hc 9⟩, hF⟩

set_option maxHeartbeats 1000000 in
set_option maxRecDepth 1000000 in
theorem new_ok (c : Cfg) (w : World) (hc : c.Ok) :
    Calls Try.prog 69 #[cfgV c] w fun e w' => ∃ b, e = .returned (.tuple #[.pointer (some ⟨b, 0, none⟩), .int .i64 0]) ∧ w.heap.size ≤ b ∧ LnAt w' (New w) b c (newP 0) (newP 1) ∧ Below w.heap.size w w' := by
  have H := hide (may_ok hc)
  clear hc
  unfold cfgV
  go_enter Try.func69, Try.ntmps69
  go_wp2_with fail
  refine (isConfig_any _ _ _ _ _ _ _ _ _ _ _).mono ?_
  rintro e w1 ⟨rfl, hb1⟩
  rw [H.out]
  have X1 := hide ((CfgAt.new w c).below hb1)
  have B1 := hide (below_step ((Below.refl w.heap.size w).alloc (Nat.le_refl _) (.cells (cfgCells c) 42)) hb1)
  obtain ⟨k0, k1, k2, k3, k4, k5, k6, k7, k8, k9⟩ := X1.out.all
  clear hb1
  go_wp2
  go_ret2
  exact ⟨w1.heap.size, rfl, B1.out.size, NewBlk.ln (heap_alloc_new _ _) B1.out.size, Below.allocN B1.out _⟩

end Go.Proofs.Ytlbpjcphhocdkaa
