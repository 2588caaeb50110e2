/- The line in memory: its configuration, its two stations. -/
import Derived.Test.YtlbpjcphhocdkaaLm
namespace Go.Proofs.Ytlbpjcphhocdkaa
open Go.RowKit Go.Proofs.Ytlbpjcphhocdkaa.Mod Go.Proofs.Ytlbpjcphhocdkaa.Pst

/-- A configuration as a value; in memory. -/
def cfgV (c : Cfg) : Value := .agg #[.int .i64 c.check, .int .i64 c.size, .int .i64 c.parts, .int .i64 c.queue, .int .i64 c.first, .int .i64 c.second, .int .i64 c.reply, .int .i64 c.lost, .int .i64 c.tries, .int .i64 c.waits]
def cfgCells (c : Cfg) : Array Value := #[.int .i64 c.check, .int .i64 c.size, .int .i64 c.parts, .int .i64 c.queue, .int .i64 c.first, .int .i64 c.second, .int .i64 c.reply, .int .i64 c.lost, .int .i64 c.tries, .int .i64 c.waits]
def CfgAt (w : World) (g : Nat) (c : Cfg) : Prop := w.heap[g]? = some (.cells (cfgCells c) 42 (0, 0))

theorem CfgAt.new (w : World) (c : Cfg) : CfgAt (w.alloc (.cells (cfgCells c) 42)) w.heap.size c := heap_alloc_new w _
theorem CfgAt.lt {w : World} {g : Nat} {c : Cfg} (h : CfgAt w g c) : g < w.heap.size := lt_of_block h
theorem CfgAt.below {w w' : World} {g : Nat} {c : Cfg} (h : CfgAt w g c) (k : Below w.heap.size w w') : CfgAt w' g c := (k.block g h.lt).trans h
theorem CfgAt.bes {w w' : World} {g b o : Nat} {c : Cfg} (h : CfgAt w g c) (k : Bes b o w w') (hb : b ≠ g) : CfgAt w' g c := (k.block g h.lt hb.symm).trans h
theorem CfgAt.cell {w : World} {g : Nat} {c : Cfg} (h : CfgAt w g c) (i : Nat) (_hi : i < 10) : w.cell? ⟨g, i, none⟩ = (cfgCells c)[i]? := by
  unfold CfgAt at h
  simp [World.cell?, h]
/-- All ten, as a walk wants them. -/
theorem CfgAt.all {w : World} {g : Nat} {c : Cfg} (h : CfgAt w g c) :
    w.cell? ⟨g, 0, none⟩ = some (.int .i64 c.check) ∧ w.cell? ⟨g, 1, none⟩ = some (.int .i64 c.size) ∧ w.cell? ⟨g, 2, none⟩ = some (.int .i64 c.parts) ∧ w.cell? ⟨g, 3, none⟩ = some (.int .i64 c.queue) ∧ w.cell? ⟨g, 4, none⟩ = some (.int .i64 c.first) ∧
    w.cell? ⟨g, 5, none⟩ = some (.int .i64 c.second) ∧ w.cell? ⟨g, 6, none⟩ = some (.int .i64 c.reply) ∧ w.cell? ⟨g, 7, none⟩ = some (.int .i64 c.lost) ∧ w.cell? ⟨g, 8, none⟩ = some (.int .i64 c.tries) ∧ w.cell? ⟨g, 9, none⟩ = some (.int .i64 c.waits) :=
  ⟨h.cell 0 (by omega), h.cell 1 (by omega), h.cell 2 (by omega), h.cell 3 (by omega), h.cell 4 (by omega), h.cell 5 (by omega), h.cell 6 (by omega), h.cell 7 (by omega), h.cell 8 (by omega), h.cell 9 (by omega)⟩

/-- The line's configuration, in its first ten cells. -/
def CfgL (W : World) (b : Nat) (c : Cfg) : Prop :=
  W.cell? ⟨b, 0, none⟩ = some (.int .i64 c.check) ∧ W.cell? ⟨b, 1, none⟩ = some (.int .i64 c.size) ∧ W.cell? ⟨b, 2, none⟩ = some (.int .i64 c.parts) ∧ W.cell? ⟨b, 3, none⟩ = some (.int .i64 c.queue) ∧ W.cell? ⟨b, 4, none⟩ = some (.int .i64 c.first) ∧
    W.cell? ⟨b, 5, none⟩ = some (.int .i64 c.second) ∧ W.cell? ⟨b, 6, none⟩ = some (.int .i64 c.reply) ∧ W.cell? ⟨b, 7, none⟩ = some (.int .i64 c.lost) ∧ W.cell? ⟨b, 8, none⟩ = some (.int .i64 c.tries) ∧ W.cell? ⟨b, 9, none⟩ = some (.int .i64 c.waits)
theorem CfgL.keep {W W' : World} {b : Nat} {c : Cfg} (h : CfgL W b c) (k : ∀ i, i < 10 → W'.cell? ⟨b, i, none⟩ = W.cell? ⟨b, i, none⟩) : CfgL W' b c := by
  obtain ⟨h0, h1, h2, h3, h4, h5, h6, h7, h8, h9⟩ := h
  exact ⟨(k 0 (by omega)).trans h0, (k 1 (by omega)).trans h1, (k 2 (by omega)).trans h2, (k 3 (by omega)).trans h3, (k 4 (by omega)).trans h4, (k 5 (by omega)).trans h5, (k 6 (by omega)).trans h6, (k 7 (by omega)).trans h7, (k 8 (by omega)).trans h8, (k 9 (by omega)).trans h9⟩

/-- A line: its block, its two queues; all its blocks are of F. -/
structure LnAt (w : World) (F : Nat → Prop) (b : Nat) (c : Cfg) (p0 p1 : PS) : Prop where
  sts : ∃ F0 F1 : Nat → Prop, StAt w F0 b 10 p0 ∧ StAt w F1 b 25 p1 ∧ (∀ g, F0 g → F g ∧ g < w.heap.size) ∧ (∀ g, F1 g → F g ∧ g < w.heap.size) ∧ (∀ g, F0 g → ¬ F1 g)
  cfg : CfgL w b c
  own : F b

section
variable {w w' : World} {F G : Nat → Prop} {b o : Nat} {s : PS} {c : Cfg} {p0 p1 : PS}
/-- The other station. -/
theorem StAt.beside {o2 : Nat} (h : StAt w F b o2 s) (k : Bes b o w w') (ho : o2 + 15 ≤ o ∨ o + 15 ≤ o2) : StAt w' F b o2 s :=
  h.keep (fun i hi => k.cell (o2 + i) (by omega)) k.froz (fun g hg hl => k.block g hl (fun e => h.nb (by rw [← e]; exact hg)))
theorem CfgL.bes (h : CfgL w b c) (k : Bes b o w w') (ho : 10 ≤ o) : CfgL w' b c := h.keep fun i hi => k.cell i (by omega)
theorem CfgL.below (h : CfgL w b c) (k : Below w.heap.size w w') (hb : b < w.heap.size) : CfgL w' b c := h.keep fun _ _ => k.cell hb
theorem StAt.bound (h : StAt w F b o s) : StAt w (fun g => F g ∧ g < w.heap.size) b o s := by
  obtain ⟨v, hv, hq⟩ := h.que
  exact ⟨h.side, ⟨v, hv, hq.1, fun g hg => ⟨hq.2 g hg, hq.lt g hg⟩⟩, h.joined, h.busy, h.put, h.mode, h.wait, h.rest, h.tries, h.off, h.free, h.block, h.head, h.text, h.yes, h.fz, fun x => h.nb x.1⟩
theorem LnAt.lt (h : LnAt w F b c p0 p1) : b < w.heap.size := by obtain ⟨F0, F1, h0, _⟩ := h.sts; exact h0.lt
theorem LnAt.mono (h : LnAt w F b c p0 p1) (k : ∀ g, F g → G g) : LnAt w G b c p0 p1 := by
  obtain ⟨F0, F1, h0, h1, a, d, e⟩ := h.sts
  exact ⟨⟨F0, F1, h0, h1, fun g hg => ⟨k g (a g hg).1, (a g hg).2⟩, fun g hg => ⟨k g (d g hg).1, (d g hg).2⟩, e⟩, h.cfg, k b h.own⟩
/-- What leaves the line's blocks alone leaves the line alone. -/
theorem LnAt.keep (h : LnAt w F b c p0 p1) (hs : w.heap.size ≤ w'.heap.size) (hk : ∀ g, F g → g < w.heap.size → w'.heap[g]? = w.heap[g]?) : LnAt w' F b c p0 p1 := by
  obtain ⟨F0, F1, h0, h1, a, d, e⟩ := h.sts
  have hb := hk b h.own h.lt
  have hc : ∀ j, w'.cell? ⟨b, j, none⟩ = w.cell? ⟨b, j, none⟩ := fun j => World.cell?_of_block hb
  have hz : ∀ j, w'.frozen? ⟨b, j, none⟩ = w.frozen? ⟨b, j, none⟩ := fun j => World.frozen?_of_block hb
  exact ⟨⟨F0, F1, h0.keep (fun _ _ => hc _) hz (fun g hg hl => hk g (a g hg).1 hl), h1.keep (fun _ _ => hc _) hz (fun g hg hl => hk g (d g hg).1 hl), fun g hg => ⟨(a g hg).1, Nat.lt_of_lt_of_le (a g hg).2 hs⟩, fun g hg => ⟨(d g hg).1, Nat.lt_of_lt_of_le (d g hg).2 hs⟩, e⟩, h.cfg.keep fun _ _ => hc _, h.own⟩
end

/-- The blocks that are new. -/
def New (w : World) : Nat → Prop := fun g => w.heap.size ≤ g
def msgV (m : Msg) : Value := .agg #[.string ⟨m.head.toArray⟩, .string ⟨m.text.toArray⟩, .bool m.clear]
theorem Below.allocN {w W : World} (h : Below w.heap.size w W) (x : Obj) : Below w.heap.size w (W.alloc x) := h.alloc h.size x

theorem isStation_any (n : Int) (w : World) :
    Calls Try.prog 92 #[.int .i64 n] w fun e w' => e = .returned (.bool (decide (n = 0 ∨ n = 1))) ∧ w' = w := by
  by_cases h : n = 0
  · subst h
    go_enter Try.func92, Try.ntmps92
    go_wp2
    go_ret
    exact ⟨rfl, rfl⟩
  · by_cases h1 : n = 1
    · subst h1
      go_enter Try.func92, Try.ntmps92
      go_wp2
      go_ret
      exact ⟨rfl, rfl⟩
    · have HE : Hid (decide (n = 0 ∨ n = 1) = false) := by simp [Hid, h, h1]
      rw [HE.out]
      go_enter Try.func92, Try.ntmps92
      go_wp2
      go_ret
      exact ⟨by show Ending.returned (Value.bool (n == 0 || n == 1)) = _; simp [h, h1], rfl⟩

end Go.Proofs.Ytlbpjcphhocdkaa
