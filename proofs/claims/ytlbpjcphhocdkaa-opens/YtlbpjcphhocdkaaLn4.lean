/- What can be asked of a line. -/
import Derived.Test.YtlbpjcphhocdkaaLn0
namespace Go.Proofs.Ytlbpjcphhocdkaa
open Go.RowKit Go.Proofs.Ytlbpjcphhocdkaa.Mod Go.Proofs.Ytlbpjcphhocdkaa.Pst

set_option maxHeartbeats 1000000 in
set_option maxRecDepth 1000000 in
theorem onLine_any (F : Nat → Prop) (b : Nat) (c : Cfg) (p0 p1 : PS) (st : Int) (w : World) (h : LnAt w F b c p0 p1) :
    Calls Try.prog 85 #[.pointer (some ⟨b, 0, none⟩), .int .i64 st] w fun e w' => e = .returned (.string ⟨(if st = 0 then p0.put else if st = 1 then p1.put else []).toArray⟩) ∧ Below w.heap.size w w' := by
  obtain ⟨F0, F1, s0, s1, _⟩ := h.sts
  have hlt := h.lt
  have c14 : w.cell? ⟨b, 14, none⟩ = some (.string ⟨p0.put.toArray⟩) := s0.put
  have c29 : w.cell? ⟨b, 29, none⟩ = some (.string ⟨p1.put.toArray⟩) := s1.put
  clear s0 s1 h
  by_cases h0 : st = 0
  · subst h0
    rw [if_pos rfl]
    go_enter Try.func85, Try.ntmps85
    go_wp2_with fail
    refine (isStation_any 0 _).mono ?_
    rintro e w1 ⟨rfl, hw1⟩
    obtain rfl := hw1.symm
    go_wp2
    go_ret
    exact ⟨rfl, Below.refl _ _⟩
  · rw [if_neg h0]
    by_cases h1 : st = 1
    · subst h1
      rw [if_pos rfl]
      go_enter Try.func85, Try.ntmps85
      go_wp2_with fail
      refine (isStation_any 1 _).mono ?_
      rintro e w1 ⟨rfl, hw1⟩
      obtain rfl := hw1.symm
      go_wp2
      go_ret
      exact ⟨rfl, Below.refl _ _⟩
    · rw [if_neg h1]
      have HD : Hid (decide (st = 0 ∨ st = 1) = false) := by simp [Hid, h0, h1]
      clear h0 h1
      go_enter Try.func85, Try.ntmps85
      go_wp2_with fail
      refine (isStation_any st _).mono ?_
      rintro e w1 ⟨rfl, hw1⟩
      obtain rfl := hw1.symm
      rw [HD.out]
      go_wp2
      go_ret
      exact ⟨rfl, Below.refl _ _⟩

def viewV (m q : Nat) (y : Bool) : Value := .agg #[.int .i64 m, .int .i64 q, .bool y]
def VwAt (w : World) (g : Nat) (v0 v1 v2 : Value) : Prop := w.heap[g]? = some (.cells #[v0, v1, v2] 114 (0, 0))
theorem VwAt.new (w : World) (v0 v1 v2 : Value) : VwAt (w.alloc (.cells #[v0, v1, v2] 114)) w.heap.size v0 v1 v2 := heap_alloc_new w _
theorem VwAt.newD (w : World) (v0 v1 v2 : Value) : VwAt (w.alloc (.cells #[v0, v1, v2] 114)).drew w.heap.size v0 v1 v2 := heap_alloc_new w _
theorem results_vw {fn : Func} {k : Tmp} (hf : fn.results = #[.cell k 114]) (tmps : Array Value) (w : World) (g : Nat) {v0 v1 v2 : Value} (ht : tmps.getD k undef = .pointer (some ⟨g, 0, none⟩)) (h : VwAt w g v0 v1 v2) :
    (results fn tmps).run Try.prog w = .ok (.agg #[v0, v1, v2]) w := by
  have c0 : w.cell? ⟨g, 0, none⟩ = some v0 := by unfold VwAt at h; simp [World.cell?, h]
  have c1 : w.cell? ⟨g, 1, none⟩ = some v1 := by unfold VwAt at h; simp [World.cell?, h]
  have c2 : w.cell? ⟨g, 2, none⟩ = some v2 := by unfold VwAt at h; simp [World.cell?, h]
  simp only [Array.getD_eq_getD_getElem?] at ht
  simp [results, hf, ht, go_sem, c0, c1, c2]

set_option maxHeartbeats 1000000 in
set_option maxRecDepth 1000000 in
theorem look_one (F : Nat → Prop) (b o : Nat) (s : PS) (st : Int) (w : World) (h : StAt w F b o s) (hst : (st = 0 ∧ o = 10) ∨ (st = 1 ∧ o = 25)) :
    Calls Try.prog 83 #[.pointer (some ⟨b, 0, none⟩), .int .i64 st] w fun e w' => e = .returned (viewV s.mode s.q.length s.busy) ∧ Below w.heap.size w w' := by
  have hlt := h.lt
  have hne : b ≠ w.heap.size := by omega
  obtain ⟨v, c1, hv⟩ := h.que
  obtain ⟨a, cap, rfl⟩ := hv.form
  have c5 := h.mode
  have c3 := h.busy
  generalize s.q.length = L at *
  clear h hv
  rcases hst with ⟨rfl, rfl⟩ | ⟨rfl, rfl⟩
  · simp only [Nat.reduceAdd] at c1 c3 c5
    go_enter Try.func83, Try.ntmps83
    go_wp2_with fail
    refine (isStation_any 0 _).mono ?_
    rintro e w1 ⟨rfl, hw1⟩
    subst hw1
    go_wp2
    go_region
    go_wp2
    (try simp only [Exit.inBlock, Exit.then])
    refine bodyPost_ret (results_vw rfl _ _ w.heap.size rfl (VwAt.newD w _ _ _)) rfl ?_
    exact ⟨rfl, ((Below.refl _ _).alloc (Nat.le_refl _) _).drew⟩
  · simp only [Nat.reduceAdd] at c1 c3 c5
    go_enter Try.func83, Try.ntmps83
    go_wp2_with fail
    refine (isStation_any 1 _).mono ?_
    rintro e w1 ⟨rfl, hw1⟩
    subst hw1
    go_wp2
    go_region
    go_wp2
    (try simp only [Exit.inBlock, Exit.then])
    refine bodyPost_ret (results_vw rfl _ _ w.heap.size rfl (VwAt.newD w _ _ _)) rfl ?_
    exact ⟨rfl, ((Below.refl _ _).alloc (Nat.le_refl _) _).drew⟩

set_option maxHeartbeats 1000000 in
set_option maxRecDepth 1000000 in
theorem look_none (b : Nat) (st : Int) (w : World) (h0 : ¬ st = 0) (h1 : ¬ st = 1) :
    Calls Try.prog 83 #[.pointer (some ⟨b, 0, none⟩), .int .i64 st] w fun e w' => e = .returned (viewV 0 0 false) ∧ Below w.heap.size w w' := by
  have HD : Hid (decide (st = 0 ∨ st = 1) = false) := by simp [Hid, h0, h1]
  clear h0 h1
  go_enter Try.func83, Try.ntmps83
  go_wp2_with fail
  refine (isStation_any st _).mono ?_
  rintro e w1 ⟨rfl, hw1⟩
  subst hw1
  rw [HD.out]
  go_wp2
  (try simp only [Exit.inBlock, Exit.then])
  refine bodyPost_ret (results_vw rfl _ _ w.heap.size rfl (VwAt.new w _ _ _)) rfl ?_
  exact ⟨rfl, (Below.refl _ _).alloc (Nat.le_refl _) _⟩

/-- Look, whole. -/
theorem look_any (F : Nat → Prop) (b : Nat) (c : Cfg) (p0 p1 : PS) (st : Int) (w : World) (h : LnAt w F b c p0 p1) :
    Calls Try.prog 83 #[.pointer (some ⟨b, 0, none⟩), .int .i64 st] w fun e w' => e = .returned (if st = 0 then viewV p0.mode p0.q.length p0.busy else if st = 1 then viewV p1.mode p1.q.length p1.busy else viewV 0 0 false) ∧ Below w.heap.size w w' := by
  obtain ⟨F0, F1, s0, s1, _⟩ := h.sts
  by_cases h0 : st = 0
  · rw [if_pos h0]; exact look_one F0 b 10 p0 st w s0 (Or.inl ⟨h0, rfl⟩)
  · rw [if_neg h0]
    by_cases h1 : st = 1
    · rw [if_pos h1]; exact look_one F1 b 25 p1 st w s1 (Or.inr ⟨h1, rfl⟩)
    · rw [if_neg h1]; exact look_none b st w h0 h1

end Go.Proofs.Ytlbpjcphhocdkaa
