/- The document's line, made; what can be asked of it. -/
import Derived.Test.YtlbpjcphhocdkaaOp1
namespace Go.Proofs.Ytlbpjcphhocdkaa
set_option maxRecDepth 1000000
open Go.RowKit Go.Proofs.Ytlbpjcphhocdkaa.Mod Go.Proofs.Ytlbpjcphhocdkaa.Pst

/-- The document's line: both its stations; its blocks are of F. -/
structure RLn (w : World) (F : Nat → Prop) (yb : Nat) (c : Cfg) (now : Nat) (r0 r1 : RS) (on0 on1 : List UInt8) : Prop where
  at' : ∃ (sl ob b0 b1 : Nat) (F0 F1 : Nat → Prop), RAt w F0 ⟨yb, sl, ob, b0, 0⟩ c now r0 on0 ∧ RAt w F1 ⟨yb, sl, ob, b1, 1⟩ c now r1 on1 ∧ b0 ≠ b1 ∧ ¬ F0 b1 ∧ ¬ F1 b0 ∧ (∀ g, F0 g → ¬ F1 g) ∧ (∀ g, F0 g → F g ∧ g < w.heap.size) ∧ (∀ g, F1 g → F g ∧ g < w.heap.size) ∧ F yb ∧ F sl ∧ F ob ∧ F b0 ∧ F b1

/-- What leaves its blocks alone leaves it alone. -/
theorem RAt.keep {w w' : World} {F : Nat → Prop} {A : RAd} {c : Cfg} {now : Nat} {s : RS} {on : List UInt8} (h : RAt w F A c now s on) (hk : ∀ g, g = A.yb ∨ g = A.sl ∨ g = A.ob ∨ g = A.sb ∨ F g → g < w.heap.size → w'.heap[g]? = w.heap[g]?) : RAt w' F A c now s on := by
  obtain ⟨v, hv, hq⟩ := h.que
  obtain ⟨g, hg, hG⟩ := h.got
  have e1 : ∀ j, w'.cell? ⟨A.yb, j, none⟩ = w.cell? ⟨A.yb, j, none⟩ := fun j => World.cell?_of_block (hk _ (Or.inl rfl) h.lyb)
  have e2 : ∀ j, w'.cell? ⟨A.sl, j, none⟩ = w.cell? ⟨A.sl, j, none⟩ := fun j => World.cell?_of_block (hk _ (Or.inr (Or.inl rfl)) h.lsl)
  have e3 : ∀ j, w'.cell? ⟨A.ob, j, none⟩ = w.cell? ⟨A.ob, j, none⟩ := fun j => World.cell?_of_block (hk _ (Or.inr (Or.inr (Or.inl rfl))) h.lob)
  have e4 : ∀ j, w'.cell? ⟨A.sb, j, none⟩ = w.cell? ⟨A.sb, j, none⟩ := fun j => World.cell?_of_block (hk _ (Or.inr (Or.inr (Or.inr (Or.inl rfl)))) h.lsb)
  have z3 : ∀ j, w'.frozen? ⟨A.ob, j, none⟩ = w.frozen? ⟨A.ob, j, none⟩ := fun j => World.frozen?_of_block (hk _ (Or.inr (Or.inr (Or.inl rfl))) h.lob)
  have z4 : ∀ j, w'.frozen? ⟨A.sb, j, none⟩ = w.frozen? ⟨A.sb, j, none⟩ := fun j => World.frozen?_of_block (hk _ (Or.inr (Or.inr (Or.inr (Or.inl rfl)))) h.lsb)
  have kF : ∀ x, F x → x < w.heap.size → w'.heap[x]? = w.heap[x]? := fun x hx hl => hk x (Or.inr (Or.inr (Or.inr (Or.inr hx)))) hl
  exact ⟨h.cfg.keep fun i _ => e1 i, (e1 _).trans h.now, (e1 _).trans h.lst, (e1 _).trans h.onl, (e2 _).trans h.ptr, (e3 _).trans h.on, (e4 _).trans h.mode, (e4 _).trans h.busy, ⟨v, (e4 _).trans hv, hq.keep kF⟩, (e4 _).trans h.joined, (e4 _).trans h.began, (e4 _).trans h.wait, (e4 _).trans h.ended, (e4 _).trans h.tries, (e4 _).trans h.off, (e4 _).trans h.free, (e4 _).trans h.block, (e4 _).trans h.count, ⟨g, (e4 _).trans hg, hG.keep kF⟩, fun j => (z3 j).trans (h.zob j), fun j => (z4 j).trans (h.zsb j), h.ok⟩
theorem RLn.keep {w w' : World} {F : Nat → Prop} {yb : Nat} {c : Cfg} {now : Nat} {r0 r1 : RS} {on0 on1 : List UInt8} (h : RLn w F yb c now r0 r1 on0 on1) (hs : w.heap.size ≤ w'.heap.size) (hk : ∀ g, F g → g < w.heap.size → w'.heap[g]? = w.heap[g]?) : RLn w' F yb c now r0 r1 on0 on1 := by
  obtain ⟨sl, ob, b0, b1, F0, F1, h0, h1, n, a1, a2, a3, a4, a5, f1, f2, f3, f4, f5⟩ := h.at'
  refine ⟨sl, ob, b0, b1, F0, F1, h0.keep ?_, h1.keep ?_, n, a1, a2, a3, fun g hg => ⟨(a4 g hg).1, Nat.lt_of_lt_of_le (a4 g hg).2 hs⟩, fun g hg => ⟨(a5 g hg).1, Nat.lt_of_lt_of_le (a5 g hg).2 hs⟩, f1, f2, f3, f4, f5⟩
  · rintro g (rfl | rfl | rfl | rfl | hg) hl
    · exact hk _ f1 hl
    · exact hk _ f2 hl
    · exact hk _ f3 hl
    · exact hk _ f4 hl
    · exact hk _ (a4 g hg).1 hl
  · rintro g (rfl | rfl | rfl | rfl | hg) hl
    · exact hk _ f1 hl
    · exact hk _ f2 hl
    · exact hk _ f3 hl
    · exact hk _ f5 hl
    · exact hk _ (a5 g hg).1 hl

set_option maxHeartbeats 1000000 in
theorem rnew_no (c0 c1 c2 c3 c4 c5 c6 c7 c8 c9 : Int) (w : World) (h : mayI c0 c1 c2 c3 c4 c5 c6 c7 c8 c9 = false) :
    Calls Try.prog 70 #[.agg #[.int .i64 c0, .int .i64 c1, .int .i64 c2, .int .i64 c3, .int .i64 c4, .int .i64 c5, .int .i64 c6, .int .i64 c7, .int .i64 c8, .int .i64 c9]] w fun e w' => e = .returned (.tuple #[.pointer none, .int .i64 6]) ∧ Below w.heap.size w w' := by
  have H := hide h
  clear h
  go_enter Try.func70, Try.ntmps70
  go_wp2_with fail
  refine (rmay_any c0 c1 c2 c3 c4 c5 c6 c7 c8 c9 _).mono ?_
  rintro e w1 ⟨rfl, hb1⟩
  rw [H.out]
  have B1 := hide (below_step ((Below.refl w.heap.size w).alloc (Nat.le_refl _) (.cells #[.int .i64 c0, .int .i64 c1, .int .i64 c2, .int .i64 c3, .int .i64 c4, .int .i64 c5, .int .i64 c6, .int .i64 c7, .int .i64 c8, .int .i64 c9] 42)) hb1)
  clear hb1
  go_wp2
  go_ret2
  exact ⟨rfl, B1.out⟩

def newRS : RS := ⟨0, false, [], 0, 0, 0, -3, 0, 0, false, 0, 0, []⟩
theorem cells_at {W : World} {g : Nat} {cs : Array Value} {t : TypeId} (h : W.heap[g]? = some (.cells cs t (0, 0))) : (∀ i, W.cell? ⟨g, i, none⟩ = cs[i]?) ∧ ∀ j, W.frozen? ⟨g, j, none⟩ = false :=
  ⟨fun i => by simp [World.cell?, h], fun j => Go.Joins.unfrozen_of_block h j⟩
/-- A new station's cells. -/
def rsCells : Array Value := #[.int .i64 0, .bool false, .slice none 0 0, .int .i64 0, .int .i64 0, .int .i64 0, .int .i64 (-3), .int .i64 0, .int .i64 0, .bool false, .int .i64 0, .int .i64 0, .slice none 0 0]
theorem rat_new {W : World} {c : Cfg} {A : RAd} (hi : A.i < 2) (h1 : W.heap[A.yb]? = some (.cells #[.int .i64 c.check, .int .i64 c.size, .int .i64 c.parts, .int .i64 c.queue, .int .i64 c.first, .int .i64 c.second, .int .i64 c.reply, .int .i64 c.lost, .int .i64 c.tries, .int .i64 c.waits, .int .i64 0, .slice (some ⟨A.sl, 0, none⟩) 2 2, .slice (some ⟨A.ob, 0, none⟩) 2 2] 112 (0, 0)))
    (h2 : W.heap[A.ob]? = some (.cells #[.string ⟨#[]⟩, .string ⟨#[]⟩] 9 (0, 0))) (h3 : W.heap[A.sb]? = some (.cells rsCells 109 (0, 0))) (h4 : W.cell? ⟨A.sl, A.i, none⟩ = some (.pointer (some ⟨A.sb, 0, none⟩)))
    (ho : A.Ok (fun _ => False)) : RAt W (fun _ => False) A c 0 newRS [] := by
  obtain ⟨k1, _⟩ := cells_at h1
  obtain ⟨k2, z2⟩ := cells_at h2
  obtain ⟨k3, z3⟩ := cells_at h3
  refine ⟨⟨k1 0, k1 1, k1 2, k1 3, k1 4, k1 5, k1 6, k1 7, k1 8, k1 9⟩, k1 10, k1 11, k1 12, h4, ?_, k3 0, k3 1, ⟨_, k3 2, QAt.nil W _⟩, k3 3, k3 4, k3 5, k3 6, k3 7, k3 8, k3 9, k3 10, k3 11, ⟨_, k3 12, GAt.nil W _⟩, z2, z3, ho⟩
  rw [k2]
  match A.i, hi with
  | 0, _ => rfl
  | 1, _ => rfl

theorem five_new (w : World) (a b c d e : Obj) : ((((((w.alloc a).alloc b).alloc c).alloc d).alloc e).heap[w.heap.size]? = some a ∧ (((((w.alloc a).alloc b).alloc c).alloc d).alloc e).heap[w.heap.size + 1]? = some b ∧ (((((w.alloc a).alloc b).alloc c).alloc d).alloc e).heap[w.heap.size + 2]? = some c ∧ (((((w.alloc a).alloc b).alloc c).alloc d).alloc e).heap[w.heap.size + 3]? = some d ∧ (((((w.alloc a).alloc b).alloc c).alloc d).alloc e).heap[w.heap.size + 4]? = some e) := by
  have z : ∀ (w : World) (o : Obj), (w.alloc o).heap.size = w.heap.size + 1 := fun w o => by simp
  have h : ∀ (w : World) (o : Obj) (k : Nat), k < w.heap.size → (w.alloc o).heap[k]? = w.heap[k]? := fun w o k hk => Below.heap_alloc w o k hk
  have n : ∀ (w : World) (o : Obj), (w.alloc o).heap[w.heap.size]? = some o := fun w o => heap_alloc_new w o
  have n' : ∀ (w : World) (o : Obj) (k : Nat), k = w.heap.size → (w.alloc o).heap[k]? = some o := fun w o k hk => by rw [hk]; exact n w o
  refine ⟨?_, ?_, ?_, ?_, ?_⟩
  · rw [h _ _ _ (by simp only [z]; omega), h _ _ _ (by simp only [z]; omega), h _ _ _ (by simp only [z]; omega), h _ _ _ (by simp only [z]; omega)]; exact n w a
  · rw [h _ _ _ (by simp only [z]; omega), h _ _ _ (by simp only [z]; omega), h _ _ _ (by simp only [z]; omega)]; exact n' _ b _ (by simp only [z])
  · rw [h _ _ _ (by simp only [z]; omega), h _ _ _ (by simp only [z]; omega)]; exact n' _ c _ (by simp only [z])
  · rw [h _ _ _ (by simp only [z]; omega)]; exact n' _ d _ (by simp only [z])
  · exact n' _ e _ (by simp only [z])

set_option maxHeartbeats 1000000 in
theorem rnew_ok (c : Cfg) (w : World) (hc : c.Ok) :
    Calls Try.prog 70 #[cfgV c] w fun e w' => ∃ yb, e = .returned (.tuple #[.pointer (some ⟨yb, 0, none⟩), .int .i64 0]) ∧ RLn w' (New w) yb c 0 newRS newRS [] [] ∧ Below w.heap.size w w' := by
  have H := hide (may_ok hc)
  clear hc
  unfold cfgV
  go_enter Try.func70, Try.ntmps70
  go_wp2_with fail
  refine (rmay_any _ _ _ _ _ _ _ _ _ _ _).mono ?_
  rintro e w1 ⟨rfl, hb1⟩
  rw [H.out]
  have X1 := hide ((CfgAt.new w c).below hb1)
  have B1 := hide (below_step ((Below.refl w.heap.size w).alloc (Nat.le_refl _) (.cells (cfgCells c) 42)) hb1)
  have hlt := CfgAt.lt X1.out
  have XX : ∀ a b d, CfgAt (((w1.alloc a).alloc b).alloc d) w.heap.size c := fun a b d => ((X1.out.below (Below.allocN (Below.refl _ _) a)).below (Below.allocN (Below.refl _ _) b)).below (Below.allocN (Below.refl _ _) d)
  have k0 : ∀ a b d, (((w1.alloc a).alloc b).alloc d).cell? ⟨w.heap.size, 0, none⟩ = some (.int .i64 c.check) := fun a b d => (XX a b d).cell 0 (by omega)
  have k1 : ∀ a b d, (((w1.alloc a).alloc b).alloc d).cell? ⟨w.heap.size, 1, none⟩ = some (.int .i64 c.size) := fun a b d => (XX a b d).cell 1 (by omega)
  have k2 : ∀ a b d, (((w1.alloc a).alloc b).alloc d).cell? ⟨w.heap.size, 2, none⟩ = some (.int .i64 c.parts) := fun a b d => (XX a b d).cell 2 (by omega)
  have k3 : ∀ a b d, (((w1.alloc a).alloc b).alloc d).cell? ⟨w.heap.size, 3, none⟩ = some (.int .i64 c.queue) := fun a b d => (XX a b d).cell 3 (by omega)
  have k4 : ∀ a b d, (((w1.alloc a).alloc b).alloc d).cell? ⟨w.heap.size, 4, none⟩ = some (.int .i64 c.first) := fun a b d => (XX a b d).cell 4 (by omega)
  have k5 : ∀ a b d, (((w1.alloc a).alloc b).alloc d).cell? ⟨w.heap.size, 5, none⟩ = some (.int .i64 c.second) := fun a b d => (XX a b d).cell 5 (by omega)
  have k6 : ∀ a b d, (((w1.alloc a).alloc b).alloc d).cell? ⟨w.heap.size, 6, none⟩ = some (.int .i64 c.reply) := fun a b d => (XX a b d).cell 6 (by omega)
  have k7 : ∀ a b d, (((w1.alloc a).alloc b).alloc d).cell? ⟨w.heap.size, 7, none⟩ = some (.int .i64 c.lost) := fun a b d => (XX a b d).cell 7 (by omega)
  have k8 : ∀ a b d, (((w1.alloc a).alloc b).alloc d).cell? ⟨w.heap.size, 8, none⟩ = some (.int .i64 c.tries) := fun a b d => (XX a b d).cell 8 (by omega)
  have k9 : ∀ a b d, (((w1.alloc a).alloc b).alloc d).cell? ⟨w.heap.size, 9, none⟩ = some (.int .i64 c.waits) := fun a b d => (XX a b d).cell 9 (by omega)
  clear hb1 XX
  go_wp2
  go_ret2
  have hs := B1.out.size
  obtain ⟨h1, h2, h3, h4, h5⟩ := five_new w1 (.cells rsCells 109) (.cells rsCells 109) (.cells #[.pointer (some ⟨w1.heap.size, 0, none⟩), .pointer (some ⟨w1.heap.size + 1, 0, none⟩)] 106) (.cells #[.string ⟨#[]⟩, .string ⟨#[]⟩] 9) (.cells #[.int .i64 c.check, .int .i64 c.size, .int .i64 c.parts, .int .i64 c.queue, .int .i64 c.first, .int .i64 c.second, .int .i64 c.reply, .int .i64 c.lost, .int .i64 c.tries, .int .i64 c.waits, .int .i64 0, .slice (some ⟨w1.heap.size + 2, 0, none⟩) 2 2, .slice (some ⟨w1.heap.size + 3, 0, none⟩) 2 2] 112)
  have hB := Below.allocN (Below.allocN (Below.allocN (Below.allocN (Below.allocN B1.out (.cells rsCells 109)) (.cells rsCells 109)) (.cells #[.pointer (some ⟨w1.heap.size, 0, none⟩), .pointer (some ⟨w1.heap.size + 1, 0, none⟩)] 106)) (.cells #[.string ⟨#[]⟩, .string ⟨#[]⟩] 9)) (.cells #[.int .i64 c.check, .int .i64 c.size, .int .i64 c.parts, .int .i64 c.queue, .int .i64 c.first, .int .i64 c.second, .int .i64 c.reply, .int .i64 c.lost, .int .i64 c.tries, .int .i64 c.waits, .int .i64 0, .slice (some ⟨w1.heap.size + 2, 0, none⟩) 2 2, .slice (some ⟨w1.heap.size + 3, 0, none⟩) 2 2] 112)
  refine ⟨w1.heap.size + 4, rfl, ⟨w1.heap.size + 2, w1.heap.size + 3, w1.heap.size, w1.heap.size + 1, fun _ => False, fun _ => False, ?_, ?_, by omega, id, id, fun _ h => h.elim, fun _ h => h.elim, fun _ h => h.elim, ?_, ?_, ?_, ?_, ?_⟩, hB⟩
  · exact rat_new (A := ⟨w1.heap.size + 4, w1.heap.size + 2, w1.heap.size + 3, w1.heap.size, 0⟩) (show (0 : Nat) < 2 by omega) h5 h4 h1 ((cells_at h3).1 0) ⟨show (0 : Nat) < 2 by omega, by simp, by simp, by simp, by simp, by simp, by simp, id, id, id, id⟩
  · exact rat_new (A := ⟨w1.heap.size + 4, w1.heap.size + 2, w1.heap.size + 3, w1.heap.size + 1, 1⟩) (show (1 : Nat) < 2 by omega) h5 h4 h2 ((cells_at h3).1 1) ⟨show (1 : Nat) < 2 by omega, by simp, by simp, by simp, by simp, by simp, by simp, id, id, id, id⟩
  all_goals (show w.heap.size ≤ _; omega)

set_option maxHeartbeats 1000000 in
/-- Look, of a station that there is. -/
theorem rlook_one (F : Nat → Prop) (A : RAd) (c : Cfg) (now : Nat) (s : RS) (on : List UInt8) (st : Int) (w : World) (h : RAt w F A c now s on) (hst : st = (A.i : Int)) :
    Calls Try.prog 84 #[.pointer (some ⟨A.yb, 0, none⟩), .int .i64 st] w fun e w' => e = .returned (viewV s.mode s.q.length s.busy) ∧ Below w.heap.size w w' := by
  have hi := h.ok.i
  have l1 := h.lyb
  have l2 := h.lsl
  have l3 := h.lsb
  have n1 : A.yb ≠ w.heap.size := by omega
  have n2 : A.sl ≠ w.heap.size := by omega
  have n3 : A.sb ≠ w.heap.size := by omega
  obtain ⟨v, c2, hv⟩ := h.que
  obtain ⟨a, cap, rfl⟩ := hv.form
  have c11 := h.lst
  have cp := h.ptr
  have c0 := h.mode
  have c1 := h.busy
  generalize s.q.length = L at *
  obtain ⟨yb, sl, ob, sb, i⟩ := A
  simp only at *
  clear h hv
  match i, hi with
  | 0, _ =>
    subst hst
    go_enter Try.func84, Try.ntmps84
    go_wp2
    go_region
    go_wp2
    (try simp only [Exit.inBlock, Exit.then])
    refine bodyPost_ret (results_vw rfl _ _ w.heap.size rfl (VwAt.newD w _ _ _)) rfl ?_
    exact ⟨rfl, ((Below.refl _ _).alloc (Nat.le_refl _) _).drew⟩
  | 1, _ =>
    subst hst
    go_enter Try.func84, Try.ntmps84
    go_wp2
    go_region
    go_wp2
    (try simp only [Exit.inBlock, Exit.then])
    refine bodyPost_ret (results_vw rfl _ _ w.heap.size rfl (VwAt.newD w _ _ _)) rfl ?_
    exact ⟨rfl, ((Below.refl _ _).alloc (Nat.le_refl _) _).drew⟩

set_option maxHeartbeats 1000000 in
theorem rlook_none (b : Nat) (st : Int) (w : World) (h : ¬ (st = 0 ∨ st = 1)) :
    Calls Try.prog 84 #[.pointer (some ⟨b, 0, none⟩), .int .i64 st] w fun e w' => e = .returned (viewV 0 0 false) ∧ Below w.heap.size w w' := by
  rcases (show st < 0 ∨ (¬ st < 0 ∧ 1 < st) by omega) with h0 | ⟨h0, h1⟩
  all_goals
    clear h
    go_enter Try.func84, Try.ntmps84
    go_wp2
    (try simp only [Exit.inBlock, Exit.then])
    refine bodyPost_ret (results_vw rfl _ _ w.heap.size rfl (VwAt.new w _ _ _)) rfl ?_
    exact ⟨rfl, (Below.refl _ _).alloc (Nat.le_refl _) _⟩

set_option maxHeartbeats 1000000 in
theorem ronLine_one (F : Nat → Prop) (A : RAd) (c : Cfg) (now : Nat) (s : RS) (on : List UInt8) (st : Int) (w : World) (h : RAt w F A c now s on) (hst : st = (A.i : Int)) :
    Calls Try.prog 86 #[.pointer (some ⟨A.yb, 0, none⟩), .int .i64 st] w fun e w' => e = .returned (.string ⟨on.toArray⟩) ∧ Below w.heap.size w w' := by
  have hi := h.ok.i
  have c12 := h.onl
  have co := h.on
  obtain ⟨yb, sl, ob, sb, i⟩ := A
  simp only at *
  clear h
  match i, hi with
  | 0, _ =>
    subst hst
    go_enter Try.func86, Try.ntmps86
    go_wp2
    go_ret
    exact ⟨rfl, Below.refl _ _⟩
  | 1, _ =>
    subst hst
    go_enter Try.func86, Try.ntmps86
    go_wp2
    go_ret
    exact ⟨rfl, Below.refl _ _⟩

set_option maxHeartbeats 1000000 in
theorem ronLine_none (b : Nat) (st : Int) (w : World) (h : ¬ (st = 0 ∨ st = 1)) :
    Calls Try.prog 86 #[.pointer (some ⟨b, 0, none⟩), .int .i64 st] w fun e w' => e = .returned (.string ⟨#[]⟩) ∧ Below w.heap.size w w' := by
  rcases (show st < 0 ∨ (¬ st < 0 ∧ 1 < st) by omega) with h0 | ⟨h0, h1⟩
  all_goals
    clear h
    go_enter Try.func86, Try.ntmps86
    go_wp2
    go_ret
    exact ⟨rfl, Below.refl _ _⟩

end Go.Proofs.Ytlbpjcphhocdkaa
