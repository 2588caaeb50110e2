/-The statements' own functions over blocks: is it a good one, is it refused, what is its transmission, is it what was read. A run of the harness in memory. Structs compared: messages. What the harness does at an event. -/
import Derived.Test.YtlbpjcphhocdkabGreatDoorGRd
import Derived.Test.YtlbpjcphhocdkabGreatDoorPick
import Derived.Test.YtlbpjcphhocdkabGreatDoorGPb
import Derived.Test.YtlbpjcphhocdkabGreatDoorGLc
import Derived.Test.YtlbpjcphhocdkabGreatDoorOwn
import Derived.Laws.StructEq
namespace Go.Proofs.YtlbpjcphhocdkabGreatDoor
open Go.RowKit

set_option maxHeartbeats 2000000 in
theorem kplain_any (s : ByteArray) (w : World) (hs : s.size ≤ 140737488352000) :
    Calls Tryz.prog 26 #[.string s] w fun e w' => e = .returned (.bool (!Blk.hasCtl s.data.toList)) ∧ w' = w := by
  go_enter Tryz.func26, Tryz.ntmps26
  go_wp2
  go_loop [3] (fun i => ∃ k : Nat, k ≤ s.size ∧ i = .int .i64 k ∧ Hid (Blk.hasCtl (s.data.toList.take k) = false)) (fun i => s.size - (intOf i).toNat)
  case atStart => exact ⟨0, by omega, rfl, rfl⟩
  case round =>
    obtain ⟨k, hk, rfl, HN⟩ := hrel
    by_cases hlt : k < s.size
    · have HT := hide (take_snoc s k hlt)
      have hlt' : (k : Int) < (s.size : Int) := by omega
      have HX : Hid (Blk.isCtl s[k] = decide (s[k].toNat = 1 ∨ s[k].toNat = 2 ∨ s[k].toNat = 3 ∨ s[k].toNat = 4 ∨ s[k].toNat = 5 ∨ s[k].toNat = 16 ∨ s[k].toNat = 21 ∨ s[k].toNat = 22 ∨ s[k].toNat = 23 ∨ s[k].toNat = 31)) := rfl
      cases hc : Blk.isCtl s[k]
      · have HF : Hid (Blk.hasCtl (s.data.toList.take (k + 1)) = false) := by rw [Hid, HT.out, Blk.hasCtl_snoc, HN.out, hc]; rfl
        have hx := HX.out.symm.trans hc
        simp only [decide_eq_false_iff_not] at hx
        have d16 : ((s[k].toNat : Int) == 16) = false := by simp; omega
        have d31 : ((s[k].toNat : Int) == 31) = false := by simp; omega
        have hb := Crc.byte_lt s[k]
        clear hc HX HT HN
        by_cases a1 : (1 : Int) ≤ (s[k].toNat : Int) <;> by_cases a2 : (s[k].toNat : Int) ≤ 5 <;> by_cases a3 : (21 : Int) ≤ (s[k].toNat : Int) <;> by_cases a4 : (s[k].toNat : Int) ≤ 23 <;> first | (exfalso; omega) | skip
        all_goals clear hx
        all_goals go_wp2
        all_goals go_round
        all_goals first | exact ⟨k + 1, by omega, by go_num, HF⟩ | (simp [intOf]; omega)
      · have HF : Hid (Blk.hasCtl s.data.toList = true) := Blk.hasCtl_take (k := k + 1) (by rw [HT.out, Blk.hasCtl_snoc, hc]; simp)
        have hx := HX.out.symm.trans hc
        simp only [decide_eq_true_eq] at hx
        clear hc HX HT HN
        rcases hx with h | h | h | h | h | h | h | h | h | h
        all_goals
          have h' : (s[k].toNat : Int) = _ := congrArg Int.ofNat h
          clear h
          go_wp2
          go_ret
          exact ⟨by rw [HF.out]; rfl, rfl⟩
    · have HT : Hid (s.data.toList.take k = s.data.toList) := List.take_of_length_le (by simp; omega)
      have hlt' : ¬ (k : Int) < (s.size : Int) := by omega
      go_wp2
      go_ret
      exact ⟨by rw [← HT.out, HN.out]; rfl, rfl⟩
end Go.Proofs.YtlbpjcphhocdkabGreatDoor

namespace Go.Proofs.YtlbpjcphhocdkabGreatDoor
set_option maxRecDepth 1000000
open Go.RowKit Go.Proofs.YtlbpjcphhocdkabGreatDoor.Mod Go.Proofs.YtlbpjcphhocdkabGreatDoor.Pst Go.Proofs.YtlbpjcphhocdkabGreatDoor.Run

/-- Where it lies: the run, the line, the two sides. -/
structure RA where
  rb : Nat
  xb : Nat
  ab : Nat
  bb : Nat
def sideB (A : RA) (st : Int) : Nat := if st = 0 then A.ab else A.bb

/-- One side's block. -/
def SideAt (w : World) (F : Nat → Prop) (g : Nat) (s : Side) : Prop :=
  ∃ v, w.heap[g]? = some (.cells #[v, .int .i64 s.told, .bool s.here, .int .i64 s.mark] 41 (0, 0)) ∧ QAt w F v s.want
/-- The run's own block. -/
def rcells (A : RA) (r : R) : Array Value := #[.pointer (some ⟨A.xb, 0, none⟩), .int .i64 r.x.c.check, .int .i64 r.x.c.size, .int .i64 r.x.c.parts, .int .i64 r.x.c.queue, .int .i64 r.x.c.first, .int .i64 r.x.c.second, .int .i64 r.x.c.reply, .int .i64 r.x.c.lost, .int .i64 r.x.c.tries, .int .i64 r.x.c.waits,
  .pointer (some ⟨A.ab, 0, none⟩), .pointer (some ⟨A.bb, 0, none⟩), .bool r.hit, .bool r.wild, .bool r.calm, .bool r.ok, .bool r.fits, .bool r.token, .bool r.fresh]
def RunBlk (w : World) (A : RA) (r : R) : Prop := w.heap[A.rb]? = some (.cells (rcells A r) 33 (0, 0))
/-- Each block of it has its colour: 1 the run, 2 and 3 the sides, 4 the line's, 5 and 6 the sides' lists. -/
structure RunC (w : World) (col : Nat → Nat) (A : RA) (r : R) : Prop where
  blk : RunBlk w A r
  line : LineAt w (fun g => col g = 4) A.xb r.x
  sa : SideAt w (fun g => col g = 5) A.ab r.a
  sb : SideAt w (fun g => col g = 6) A.bb r.b
  c1 : col A.rb = 1
  c2 : col A.ab = 2
  c3 : col A.bb = 3
/-- The run, its blocks of S. -/
def RunAt (w : World) (S : Nat → Prop) (A : RA) (r : R) : Prop := ∃ col, RunC w col A r ∧ ∀ g, col g ≠ 0 → S g ∧ g < w.heap.size

section
variable {w w' : World} {F : Nat → Prop} {S T : Nat → Prop} {A : RA} {r : R} {col : Nat → Nat} {g : Nat} {s : Side}
theorem SideAt.lt (h : SideAt w F g s) : g < w.heap.size := by obtain ⟨v, h, _⟩ := h; exact lt_of_block h
theorem SideAt.keep (h : SideAt w F g s) (hb : w'.heap[g]? = w.heap[g]?) (hk : ∀ x, F x → x < w.heap.size → w'.heap[x]? = w.heap[x]?) : SideAt w' F g s := by
  obtain ⟨v, h1, h2⟩ := h
  exact ⟨v, hb.trans h1, h2.keep hk⟩
theorem SideAt.mono {G : Nat → Prop} (h : SideAt w F g s) (k : ∀ x, F x → G x) : SideAt w G g s := by
  obtain ⟨v, h1, h2⟩ := h
  exact ⟨v, h1, h2.mono k⟩
theorem RunAt.mono (h : RunAt w S A r) (k : ∀ g, S g → T g) : RunAt w T A r := by
  obtain ⟨col, h1, h2⟩ := h
  exact ⟨col, h1, fun g hg => ⟨k g (h2 g hg).1, (h2 g hg).2⟩⟩
theorem RunAt.bound (h : RunAt w S A r) : RunAt w (fun g => S g ∧ g < w.heap.size) A r := by
  obtain ⟨col, h1, h2⟩ := h
  exact ⟨col, h1, fun g hg => ⟨h2 g hg, (h2 g hg).2⟩⟩
theorem RunC.lt (h : RunC w col A r) : A.rb < w.heap.size := lt_of_block h.blk
theorem RunAt.lt (h : RunAt w S A r) : A.rb < w.heap.size ∧ A.xb < w.heap.size ∧ A.ab < w.heap.size ∧ A.bb < w.heap.size := by
  obtain ⟨col, h, _⟩ := h
  exact ⟨h.lt, h.line.lt, h.sa.lt, h.sb.lt⟩
/-- What leaves its blocks alone leaves it alone. -/
theorem RunC.keep (h : RunC w col A r) (hs : w.heap.size ≤ w'.heap.size) (hk : ∀ g, col g ≠ 0 → g < w.heap.size → w'.heap[g]? = w.heap[g]?) : RunC w' col A r := by
  have e : ∀ n, n ≠ 0 → ∀ g, col g = n → g < w.heap.size → w'.heap[g]? = w.heap[g]? := fun n hn g hg hl => hk g (by omega) hl
  exact ⟨(e 1 (by omega) _ h.c1 h.lt).trans h.blk, h.line.keep hs (e 4 (by omega)), h.sa.keep (e 2 (by omega) _ h.c2 h.sa.lt) (e 5 (by omega)), h.sb.keep (e 3 (by omega) _ h.c3 h.sb.lt) (e 6 (by omega)), h.c1, h.c2, h.c3⟩
theorem RunAt.keep (h : RunAt w S A r) (hs : w.heap.size ≤ w'.heap.size) (hk : ∀ g, S g → g < w.heap.size → w'.heap[g]? = w.heap[g]?) : RunAt w' S A r := by
  obtain ⟨col, h1, h2⟩ := h
  exact ⟨col, h1.keep hs fun g hg hl => hk g (h2 g hg).1 hl, fun g hg => ⟨(h2 g hg).1, Nat.lt_of_lt_of_le (h2 g hg).2 hs⟩⟩
theorem RunAt.below (h : RunAt w S A r) (k : Below w.heap.size w w') : RunAt w' S A r := h.keep k.size fun g _ hg => k.block g hg
theorem RunAt.own (h : RunAt w S A r) : S A.rb ∧ S A.xb ∧ S A.ab ∧ S A.bb := by
  obtain ⟨col, h1, h2⟩ := h
  have hx : col A.xb = 4 := h1.line.own
  exact ⟨(h2 _ (by rw [h1.c1]; decide)).1, (h2 _ (by rw [hx]; decide)).1, (h2 _ (by rw [h1.c2]; decide)).1, (h2 _ (by rw [h1.c3]; decide)).1⟩
theorem RunAt.ne (h : RunAt w S A r) : A.rb ≠ A.xb ∧ A.rb ≠ A.ab ∧ A.rb ≠ A.bb ∧ A.xb ≠ A.ab ∧ A.xb ≠ A.bb ∧ A.ab ≠ A.bb := by
  obtain ⟨col, h1, _⟩ := h
  have hx : col A.xb = 4 := h1.line.own
  have a1 := h1.c1; have a2 := h1.c2; have a3 := h1.c3
  refine ⟨?_, ?_, ?_, ?_, ?_, ?_⟩ <;> (intro e; have := congrArg col e; omega)
end

/-- The cells of the run's block. -/
theorem RunBlk.cell {w : World} {A : RA} {r : R} (h : RunBlk w A r) (i : Nat) : w.cell? ⟨A.rb, i, none⟩ = (rcells A r)[i]? := by
  unfold RunBlk at h
  simp [World.cell?, h]
theorem RunBlk.fz {w : World} {A : RA} {r : R} (h : RunBlk w A r) (j : Nat) : w.frozen? ⟨A.rb, j, none⟩ = false := Go.Joins.unfrozen_of_block h j

/-- The line does something: its blocks, and new ones, may have changed. -/
theorem RunC.step {w w' : World} {col : Nat → Nat} {A : RA} {r : R} {x' : Ln} {E : Nat → Prop} [DecidablePred E] (h : RunC w col A r) (hf : Fr (fun g => col g = 4) w w') (hl : LineAt w' (fun g => Plus (fun g => col g = 4) w g ∧ ¬ E g) A.xb x') (hc : x'.c = r.x.c) (hb : ∀ g, col g ≠ 0 → g < w.heap.size) :
    RunC w' (fun g => if g < w.heap.size then col g else if g < w'.heap.size ∧ ¬ E g then 4 else 0) A { r with x := x' } := by
  have k : ∀ n, n ≠ 4 → n ≠ 0 → ∀ g, (if g < w.heap.size then col g else if g < w'.heap.size ∧ ¬ E g then 4 else 0) = n → col g = n ∧ g < w.heap.size := by
    intro n h4 h0 g hg
    split at hg
    · rename_i hlt; exact ⟨hg, hlt⟩
    · split at hg <;> omega
  have kb : ∀ g, g < w.heap.size → col g ≠ 4 → w'.heap[g]? = w.heap[g]? := fun g hg hn => hf.block g hg hn
  have s1 := h.lt
  have s2 := h.sa.lt
  have s3 := h.sb.lt
  refine ⟨?_, ?_, ?_, ?_, by rw [if_pos s1]; exact h.c1, by rw [if_pos s2]; exact h.c2, by rw [if_pos s3]; exact h.c3⟩
  · have := (kb A.rb s1 (by rw [h.c1]; decide)).trans h.blk
    unfold RunBlk rcells at this ⊢
    rw [this]
    simp only [hc]
  · refine (hl.bound).mono ?_
    rintro g ⟨⟨p, ne⟩, hlt⟩
    rcases p with p | p
    · have := hb g (by rw [p]; decide)
      simp only [this, if_true]; exact p
    · simp only [show ¬ g < w.heap.size by omega, if_false]
      rw [if_pos ⟨hlt, ne⟩]
  · obtain ⟨v, h1, h2⟩ := h.sa
    refine ⟨v, (kb A.ab s2 (by rw [h.c2]; decide)).trans h1, ?_⟩
    have hq : QAt w' (fun g => col g = 5) v r.a.want := h2.keep fun g hg hl => kb g hl (by rw [hg]; decide)
    exact ⟨hq.1, fun g hg => by have := h2.lt g hg; simp only [this, if_true]; exact h2.2 g hg⟩
  · obtain ⟨v, h1, h2⟩ := h.sb
    refine ⟨v, (kb A.bb s3 (by rw [h.c3]; decide)).trans h1, ?_⟩
    have hq : QAt w' (fun g => col g = 6) v r.b.want := h2.keep fun g hg hl => kb g hl (by rw [hg]; decide)
    exact ⟨hq.1, fun g hg => by have := h2.lt g hg; simp only [this, if_true]; exact h2.2 g hg⟩

/-- The line as the run holds it. -/
theorem RunAt.line {w : World} {S : Nat → Prop} {A : RA} {r : R} (h : RunAt w S A r) : ∃ F : Nat → Prop, LineAt w F A.xb r.x ∧ (∀ g, F g → S g ∧ g < w.heap.size) ∧
    ∀ (w' : World) (x' : Ln) (E : Nat → Prop) [DecidablePred E], Fr F w w' → LineAt w' (fun g => Plus F w g ∧ ¬ E g) A.xb x' → x'.c = r.x.c → (∀ g, E g → w.heap.size ≤ g) → RunAt w' (fun g => Plus S w g ∧ ¬ E g) A { r with x := x' } ∧ Fr S w w' := by
  obtain ⟨col, h1, h2⟩ := h
  refine ⟨fun g => col g = 4, h1.line, fun g hg => h2 g (by rw [hg]; decide), ?_⟩
  intro w' x' E _ hf hl hc hE
  refine ⟨⟨_, h1.step hf hl hc (fun g hg => (h2 g hg).2), ?_⟩, hf.mono fun g hg => (h2 g (by rw [hg]; decide)).1⟩
  intro g hg
  split at hg
  · rename_i hlt
    exact ⟨⟨Or.inl (h2 g hg).1, fun e => by have := hE g e; omega⟩, Nat.lt_of_lt_of_le hlt hf.size⟩
  · split at hg
    · rename_i hlt k
      exact ⟨⟨Or.inr (by omega), k.2⟩, k.1⟩
    · exact absurd rfl hg

end Go.Proofs.YtlbpjcphhocdkabGreatDoor

namespace Go.Proofs.YtlbpjcphhocdkabGreatDoor
set_option maxRecDepth 1000000
open Go.RowKit

theorem guardMsg : Tryz.prog.eqGuardType Tryz.prog.depth 36 = false := by kernel_rfl
set_option maxHeartbeats 1000000 in
theorem eqMsgIn (d : Nat) (a b a' b' : ByteArray) (c c' : Bool) (w : World) : (Op.equalIn (d + 1 + 1) 36 (.agg #[.string a, .string b, .bool c]) (.agg #[.string a', .string b', .bool c'])).run Tryz.prog w = .ok (a.toList == a'.toList && (b.toList == b'.toList && c == c')) w := by
  have u9 := Tryz.underlying9
  have a9 := Tryz.isAgg9
  have z9 := Tryz.sizeOf9
  have u4 := Tryz.underlying4
  have a4 := Tryz.isAgg4
  have z4 := Tryz.sizeOf4
  have hS : Tryz.prog.underlying 36 = some (.struct (Tryz.prog.fieldsOf 36)) := by kernel_rfl
  have hp : Tryz.prog.stoodInHeld 36 = false := by kernel_rfl
  rw [run_equalIn_agg w (d + 1) 36 _ _ hS hp]
  simp only [Program.fieldsOf, Tryz.underlying36]
  go_simp
  by_cases h1 : a.toList = a'.toList <;> by_cases h2 : b.toList = b'.toList <;> by_cases h3 : c = c' <;> simp [h1, h2, h3]
theorem eqMsg (a b a' b' : ByteArray) (c c' : Bool) (w : World) : (Op.equalIn 10000 36 (.agg #[.string a, .string b, .bool c]) (.agg #[.string a', .string b', .bool c'])).run Tryz.prog w = .ok (a.toList == a'.toList && (b.toList == b'.toList && c == c')) w := eqMsgIn 9998 a b a' b' c c' w
theorem eqMsg_same (a b : ByteArray) (c : Bool) (w : World) : (Op.equalIn 10000 36 (.agg #[.string a, .string b, .bool c]) (.agg #[.string a, .string b, .bool c])).run Tryz.prog w = .ok true w := by
  rw [eqMsg]; simp

end Go.Proofs.YtlbpjcphhocdkabGreatDoor

namespace Go.Proofs.YtlbpjcphhocdkabGreatDoor
set_option maxRecDepth 1000000
open Go.RowKit Go.Proofs.YtlbpjcphhocdkabGreatDoor.Mod Go.Proofs.YtlbpjcphhocdkabGreatDoor.Pst Go.Proofs.YtlbpjcphhocdkabGreatDoor.Run

theorem wrap_in (x : Int) (h1 : -1000000000000000000 ≤ x) (h2 : x ≤ 1000000000000000000) : IntKind.i64.wrap x = x := by rw [IntKind.wrap_i64]; omega
theorem heap_set (w : World) (g k : Nat) (v : Value) (cs : Array Value) (t : TypeId) (fz : Nat × Nat) (h : w.heap[g]? = some (.cells cs t fz)) : (w.setCell ⟨g, k, none⟩ v).heap[g]? = some (.cells (cs.setIfInBounds k v) t fz) := by
  simp [World.setCell, Array.getElem?_modify, h]
section
variable {w w' : World} {F : Nat → Prop} {g : Nat} {s : Side}
theorem SideAt.told' (h : SideAt w F g s) (hn : ¬ F g) (x : Nat) : SideAt (w.setCell ⟨g, 1, none⟩ (.int .i64 x)) F g { s with told := x } := by
  obtain ⟨v, h1, h2⟩ := h
  exact ⟨v, by rw [heap_set _ _ _ _ _ _ _ h1]; rfl, h2.keep fun y hy _ => Below.heap_setCell _ _ _ _ (fun e => hn (by have e' : y = g := e; rw [← e']; exact hy))⟩
theorem SideAt.here' (h : SideAt w F g s) (hn : ¬ F g) (x : Bool) : SideAt (w.setCell ⟨g, 2, none⟩ (.bool x)) F g { s with here := x } := by
  obtain ⟨v, h1, h2⟩ := h
  exact ⟨v, by rw [heap_set _ _ _ _ _ _ _ h1]; rfl, h2.keep fun y hy _ => Below.heap_setCell _ _ _ _ (fun e => hn (by have e' : y = g := e; rw [← e']; exact hy))⟩
theorem SideAt.mark' (h : SideAt w F g s) (hn : ¬ F g) (x : Nat) : SideAt (w.setCell ⟨g, 3, none⟩ (.int .i64 x)) F g { s with mark := x } := by
  obtain ⟨v, h1, h2⟩ := h
  exact ⟨v, by rw [heap_set _ _ _ _ _ _ _ h1]; rfl, h2.keep fun y hy _ => Below.heap_setCell _ _ _ _ (fun e => hn (by have e' : y = g := e; rw [← e']; exact hy))⟩
/-- Its cells, as a walk wants them. -/
theorem SideAt.all (h : SideAt w F g s) : (∃ a cap, w.cell? ⟨g, 0, none⟩ = some (.slice a s.want.length cap) ∧ QAt w F (.slice a s.want.length cap) s.want) ∧ w.cell? ⟨g, 1, none⟩ = some (.int .i64 s.told) ∧ w.cell? ⟨g, 2, none⟩ = some (.bool s.here) ∧ w.cell? ⟨g, 3, none⟩ = some (.int .i64 s.mark) ∧ ∀ j, w.frozen? ⟨g, j, none⟩ = false := by
  obtain ⟨v, h1, h2⟩ := h
  obtain ⟨a, cap, rfl⟩ := h2.form
  have k : ∀ i, w.cell? ⟨g, i, none⟩ = (#[.slice a s.want.length cap, .int .i64 s.told, .bool s.here, .int .i64 s.mark] : Array Value)[i]? := fun i => by simp [World.cell?, h1]
  exact ⟨⟨a, cap, k 0, h2⟩, k 1, k 2, k 3, fun j => Go.Joins.unfrozen_of_block h1 j⟩
end

section
variable {w : World} {col : Nat → Nat} {A : RA} {r : R} {S : Nat → Prop}
theorem RunC.set (h : RunC w col A r) (k : Nat) (v : Value) (r' : R) (hx : r'.x = r.x) (ha : r'.a = r.a) (hb : r'.b = r.b) (hr : (rcells A r).setIfInBounds k v = rcells A r') : RunC (w.setCell ⟨A.rb, k, none⟩ v) col A r' := by
  have kb : ∀ n, n ≠ 1 → ∀ g, col g = n → (w.setCell ⟨A.rb, k, none⟩ v).heap[g]? = w.heap[g]? := fun n hn g hg => Below.heap_setCell _ _ _ _ (fun e => by have e' : g = A.rb := e; rw [e', h.c1] at hg; omega)
  refine ⟨?_, ?_, ?_, ?_, h.c1, h.c2, h.c3⟩
  · unfold RunBlk; rw [heap_set _ _ _ _ _ _ _ h.blk, hr]
  · rw [hx]; exact h.line.keep (by simp) (fun g hg _ => kb 4 (by decide) g hg)
  · rw [ha]; exact h.sa.keep (kb 2 (by decide) _ h.c2) (fun g hg _ => kb 5 (by decide) g hg)
  · rw [hb]; exact h.sb.keep (kb 3 (by decide) _ h.c3) (fun g hg _ => kb 6 (by decide) g hg)
theorem RunC.side (h : RunC w col A r) (st : Int) : SideAt w (fun g => col g = if st = 0 then 5 else 6) (sideB A st) (sideOf r st) ∧ col (sideB A st) = (if st = 0 then 2 else 3) := by
  unfold sideB sideOf
  split
  · exact ⟨h.sa, h.c2⟩
  · exact ⟨h.sb, h.c3⟩
theorem RunC.setS (h : RunC w col A r) (st : Int) (k : Nat) (v : Value) (s' : Side) (hS : ∀ F : Nat → Prop, ¬ F (sideB A st) → SideAt w F (sideB A st) (sideOf r st) → SideAt (w.setCell ⟨sideB A st, k, none⟩ v) F (sideB A st) s') : RunC (w.setCell ⟨sideB A st, k, none⟩ v) col A (setSide r st s') := by
  obtain ⟨hs, hc⟩ := h.side st
  have kb : ∀ g, g ≠ sideB A st → (w.setCell ⟨sideB A st, k, none⟩ v).heap[g]? = w.heap[g]? := fun g hg => Below.heap_setCell _ _ _ _ hg
  have n1 : A.rb ≠ sideB A st := fun e => by have := h.c1; rw [e, hc] at this; split at this <;> omega
  have n4 : ∀ g, col g = 4 → g ≠ sideB A st := fun g hg e => by rw [e, hc] at hg; split at hg <;> omega
  have n5 : ∀ g, col g = 5 → g ≠ sideB A st := fun g hg e => by rw [e, hc] at hg; split at hg <;> omega
  have n6 : ∀ g, col g = 6 → g ≠ sideB A st := fun g hg e => by rw [e, hc] at hg; split at hg <;> omega
  have hl : LineAt (w.setCell ⟨sideB A st, k, none⟩ v) (fun g => col g = 4) A.xb r.x := h.line.keep (by simp) (fun g hg _ => kb g (n4 g hg))
  have hblk : (w.setCell ⟨sideB A st, k, none⟩ v).heap[A.rb]? = some (.cells (rcells A r) 33 (0, 0)) := (kb _ n1).trans h.blk
  have hnew := hS (fun g => col g = if st = 0 then 5 else 6) (by rw [hc]; split <;> omega) hs
  unfold setSide
  by_cases hst : st = 0
  · rw [if_pos hst]
    have e : sideB A st = A.ab := by unfold sideB; rw [if_pos hst]
    have hbb : A.bb ≠ sideB A st := fun e' => by have := h.c3; rw [e', hc, if_pos hst] at this; omega
    simp only [if_pos hst] at hnew
    exact ⟨hblk, hl, by rw [e] at hnew ⊢; exact hnew, h.sb.keep (kb _ hbb) (fun g hg _ => kb g (n6 g hg)), h.c1, h.c2, h.c3⟩
  · rw [if_neg hst]
    have e : sideB A st = A.bb := by unfold sideB; rw [if_neg hst]
    have hab : A.ab ≠ sideB A st := fun e' => by have := h.c2; rw [e', hc, if_neg hst] at this; omega
    simp only [if_neg hst] at hnew
    exact ⟨hblk, hl, h.sa.keep (kb _ hab) (fun g hg _ => kb g (n5 g hg)), by rw [e] at hnew ⊢; exact hnew, h.c1, h.c2, h.c3⟩
theorem RunC.below {w' : World} (h : RunC w col A r) (hb : ∀ g, col g ≠ 0 → g < w.heap.size) (k : Below w.heap.size w w') : RunC w' col A r := h.keep k.size fun g hg _ => k.block g (hb g hg)
/-- The run with other blocks that hold the same. -/
theorem RunAt.mk' (h : RunC w col A r) (hS : ∀ g, col g ≠ 0 → S g ∧ g < w.heap.size) : RunAt w S A r := ⟨col, h, hS⟩
end

/-- Which cells it has. -/
theorem RunC.cells {w : World} {col : Nat → Nat} {A : RA} {r : R} (h : RunC w col A r) :
    w.cell? ⟨A.rb, 0, none⟩ = some (.pointer (some ⟨A.xb, 0, none⟩)) ∧ w.cell? ⟨A.rb, 11, none⟩ = some (.pointer (some ⟨A.ab, 0, none⟩)) ∧ w.cell? ⟨A.rb, 12, none⟩ = some (.pointer (some ⟨A.bb, 0, none⟩)) ∧ w.cell? ⟨A.rb, 13, none⟩ = some (.bool r.hit) ∧ w.cell? ⟨A.rb, 14, none⟩ = some (.bool r.wild) ∧ w.cell? ⟨A.rb, 15, none⟩ = some (.bool r.calm) ∧ w.cell? ⟨A.rb, 16, none⟩ = some (.bool r.ok) ∧ w.cell? ⟨A.rb, 17, none⟩ = some (.bool r.fits) ∧ w.cell? ⟨A.rb, 18, none⟩ = some (.bool r.token) ∧ w.cell? ⟨A.rb, 19, none⟩ = some (.bool r.fresh) ∧ ∀ j, w.frozen? ⟨A.rb, j, none⟩ = false :=
  ⟨h.blk.cell 0, h.blk.cell 11, h.blk.cell 12, h.blk.cell 13, h.blk.cell 14, h.blk.cell 15, h.blk.cell 16, h.blk.cell 17, h.blk.cell 18, h.blk.cell 19, h.blk.fz⟩

set_option maxHeartbeats 1000000 in
theorem side_any (A : RA) (st : Int) (w : World) (c11 : w.cell? ⟨A.rb, 11, none⟩ = some (.pointer (some ⟨A.ab, 0, none⟩))) (c12 : w.cell? ⟨A.rb, 12, none⟩ = some (.pointer (some ⟨A.bb, 0, none⟩))) :
    Calls Tryz.prog 24 #[.pointer (some ⟨A.rb, 0, none⟩), .int .i64 st] w fun e w' => e = .returned (.pointer (some ⟨sideB A st, 0, none⟩)) ∧ w' = w := by
  by_cases h : st = 0
  · have HE : Hid (sideB A st = A.ab) := by unfold Hid sideB; rw [if_pos h]
    rw [HE.out]
    subst h
    go_enter Tryz.func24, Tryz.ntmps24
    go_wp2
    go_ret
    exact ⟨rfl, rfl⟩
  · have HE : Hid (sideB A st = A.bb) := by unfold Hid sideB; rw [if_neg h]
    rw [HE.out]
    have h' : (st == 0) = false := by simp [h]
    go_enter Tryz.func24, Tryz.ntmps24
    go_wp2
    go_ret
    exact ⟨rfl, rfl⟩

theorem toldR_eq (r : R) (e : Ev) (f : Bool) (hf : f = if e.kind = 3 ∧ r.calm = true ∧ (sideOf r e.station).told ≠ (sideOf r e.station).mark then false else r.fresh) :
    toldR r e = { setSide r e.station { sideOf r e.station with told := (sideOf r e.station).told + 1, here := false } with fresh := f } := by rw [hf]; rfl

/-- The two sets at its end. -/
theorem told_sets {w : World} {col : Nat → Nat} {A : RA} {r : R} (h : RunC w col A r) (st : Int) (n : Nat) : RunC ((w.setCell ⟨sideB A st, 1, none⟩ (.int .i64 n)).setCell ⟨sideB A st, 2, none⟩ (.bool false)) col A (setSide r st { sideOf r st with told := n, here := false }) := by
  have h1 := h.setS st 1 (.int .i64 n) { sideOf r st with told := n } (fun F hn hs => hs.told' hn n)
  have e1 : sideOf (setSide r st { sideOf r st with told := n }) st = { sideOf r st with told := n } := by unfold sideOf setSide; split <;> rfl
  have h2 := h1.setS st 2 (.bool false) { sideOf r st with told := n, here := false } (fun F hn hs => by rw [e1] at hs; exact hs.here' hn false)
  have e2 : setSide (setSide r st { sideOf r st with told := n }) st { sideOf r st with told := n, here := false } = setSide r st { sideOf r st with told := n, here := false } := by unfold setSide; split <;> rfl
  rw [e2] at h2
  exact h2

theorem Fr.setN {S : Nat → Prop} {w w' : World} (h : Fr S w w') {g : Nat} (hg : S g) (k : Nat) (v : Value) : Fr S w (w'.setCell ⟨g, k, none⟩ v) :=
  ⟨h.os, h.tape, h.output, by simpa using h.size, fun i hi hn => by rw [Below.heap_setCell _ _ _ _ (fun e => hn (by rw [e]; exact hg))]; exact h.block i hi hn⟩


/-- The event in its box. -/
theorem box_ev (w : World) (e : Ev) : EvAt (w.alloc (.cells #[.int .i64 e.kind, .int .i64 e.station, .int .i64 e.number, .string ⟨e.msg.head.toArray⟩, .string ⟨e.msg.text.toArray⟩, .bool e.msg.clear] 38)) w.heap.size (.int .i64 e.kind) (.int .i64 e.station) (.int .i64 e.number) (.string ⟨e.msg.head.toArray⟩) (.string ⟨e.msg.text.toArray⟩) (.bool e.msg.clear) := heap_alloc_new w _

theorem setSide_fresh (r : R) (st : Int) (s : Side) (b : Bool) : setSide { r with fresh := b } st s = { setSide r st s with fresh := b } := by unfold setSide; split <;> rfl
theorem sideOf_fresh (r : R) (st : Int) (b : Bool) : sideOf { r with fresh := b } st = sideOf r st := rfl
theorem told_end0 {w D : World} {col : Nat → Nat} {S : Nat → Prop} {A : RA} {r : R} {e : Ev} (hC : RunC D col A r) (hcol : ∀ g, col g ≠ 0 → S g ∧ g < w.heap.size) (hB : Below w.heap.size w D) (hS : S (sideB A e.station) ∧ S A.rb) (hf : ¬ (e.kind = 3 ∧ r.calm = true ∧ (sideOf r e.station).told ≠ (sideOf r e.station).mark)) :
    RunAt ((D.setCell ⟨sideB A e.station, 1, none⟩ (.int .i64 (((sideOf r e.station).told : Int) + 1))).setCell ⟨sideB A e.station, 2, none⟩ (.bool false)) S A (toldR r e) ∧ Fr S w ((D.setCell ⟨sideB A e.station, 1, none⟩ (.int .i64 (((sideOf r e.station).told : Int) + 1))).setCell ⟨sideB A e.station, 2, none⟩ (.bool false)) := by
  have h := told_sets hC e.station ((sideOf r e.station).told + 1)
  have ei : (((sideOf r e.station).told + 1 : Nat) : Int) = ((sideOf r e.station).told : Int) + 1 := by omega
  rw [ei] at h
  refine ⟨⟨col, ?_, fun g hg => ⟨(hcol g hg).1, ?_⟩⟩, Fr.setN (Fr.setN (Fr.of_below hB) hS.1 _ _) hS.1 _ _⟩
  · rw [toldR_eq r e r.fresh (by rw [if_neg hf])]
    have : ({ setSide r e.station { sideOf r e.station with told := (sideOf r e.station).told + 1, here := false } with fresh := r.fresh } : R) = setSide r e.station { sideOf r e.station with told := (sideOf r e.station).told + 1, here := false } := by unfold setSide; split <;> rfl
    rw [this]
    exact h
  · have := (hcol g hg).2; have := hB.size; simp; omega
theorem told_end1 {w D : World} {col : Nat → Nat} {S : Nat → Prop} {A : RA} {r : R} {e : Ev} (hC : RunC D col A r) (hcol : ∀ g, col g ≠ 0 → S g ∧ g < w.heap.size) (hB : Below w.heap.size w D) (hS : S (sideB A e.station) ∧ S A.rb) (hf : e.kind = 3 ∧ r.calm = true ∧ (sideOf r e.station).told ≠ (sideOf r e.station).mark) :
    RunAt (((D.setCell ⟨A.rb, 19, none⟩ (.bool false)).setCell ⟨sideB A e.station, 1, none⟩ (.int .i64 (((sideOf r e.station).told : Int) + 1))).setCell ⟨sideB A e.station, 2, none⟩ (.bool false)) S A (toldR r e) ∧ Fr S w (((D.setCell ⟨A.rb, 19, none⟩ (.bool false)).setCell ⟨sideB A e.station, 1, none⟩ (.int .i64 (((sideOf r e.station).told : Int) + 1))).setCell ⟨sideB A e.station, 2, none⟩ (.bool false)) := by
  have hD := hC.set 19 (.bool false) { r with fresh := false } rfl rfl rfl rfl
  have h := told_sets hD e.station ((sideOf r e.station).told + 1)
  have ei : (((sideOf r e.station).told + 1 : Nat) : Int) = ((sideOf r e.station).told : Int) + 1 := by omega
  rw [ei] at h
  refine ⟨⟨col, ?_, fun g hg => ⟨(hcol g hg).1, ?_⟩⟩, Fr.setN (Fr.setN (Fr.setN (Fr.of_below hB) hS.2 _ _) hS.1 _ _) hS.1 _ _⟩
  · rw [toldR_eq r e false (by rw [if_pos hf])]
    rw [setSide_fresh] at h
    exact h
  · have := (hcol g hg).2; have := hB.size; simp; omega

set_option maxHeartbeats 4000000 in
theorem told_run (S : Nat → Prop) (A : RA) (r : R) (e : Ev) (w : World) (h : RunAt w S A r) (he : e.kind = 2 ∨ e.kind = 3) (hok : toldOk r e) (hb1 : (sideOf r e.station).want.length ≤ 1000000000000000) :
    Calls Tryz.prog 45 #[.pointer (some ⟨A.rb, 0, none⟩), evV (some e)] w fun x w' => x = .returned (.bool true) ∧ RunAt w' S A (toldR r e) ∧ Fr S w w' := by
  have hown := h.own
  obtain ⟨col, hc, hcol⟩ := h
  have HS : Hid (S (sideB A e.station) ∧ S A.rb) := by
    refine ⟨?_, hown.1⟩
    unfold sideB
    split
    · exact hown.2.2.1
    · exact hown.2.2.2
  have hbel := (Below.refl w.heap.size w).alloc (Nat.le_refl _) (.cells #[.int .i64 e.kind, .int .i64 e.station, .int .i64 e.number, .string ⟨e.msg.head.toArray⟩, .string ⟨e.msg.text.toArray⟩, .bool e.msg.clear] 38)
  have HB := hide hbel
  have hc' := hc.below (fun g hg => (hcol g hg).2) hbel
  have HCOL := hide hcol
  have HE := hide (box_ev w e)
  have hrb := hc.lt
  unfold evV
  go_enter Tryz.func45, Tryz.ntmps45
  go_wp2_with fail
  generalize w.alloc (.cells #[.int .i64 e.kind, .int .i64 e.station, .int .i64 e.number, .string ⟨e.msg.head.toArray⟩, .string ⟨e.msg.text.toArray⟩, .bool e.msg.clear] 38) = W at *
  obtain ⟨hs, hsc⟩ := hc'.side e.station
  obtain ⟨_, c11, c12, _, c14, c15, _, _, _, c19, fz⟩ := hc'.cells
  obtain ⟨⟨a, cap, s0, _⟩, s1, s2, s3, sz⟩ := hs.all
  have f19 := fz 19
  have z1 := sz 1
  have z2 := sz 2
  have hne : A.rb ≠ sideB A e.station := fun e' => by have := hc'.c1; rw [e', hsc] at this; split at this <;> omega
  have hlt2 := hs.lt
  refine (side_any A e.station _ c11 c12).mono ?_
  rintro x w1 ⟨rfl, hw1⟩
  obtain rfl := hw1.symm
  obtain ⟨e0, e1, e2, e3, e4, e5⟩ := HE.out.cell
  obtain ⟨o1, o2, o3, o4⟩ := hok
  have HC := hide hc'
  rw [o1] at e2
  rw [o3] at e3 e4 e5
  replace e3 : W.cell? ⟨w.heap.size, 3, none⟩ = some (.string ⟨#[]⟩) := e3
  replace e4 : W.cell? ⟨w.heap.size, 4, none⟩ = some (.string ⟨#[]⟩) := e4
  replace e5 : W.cell? ⟨w.heap.size, 5, none⟩ = some (.bool false) := e5
  have hq := eqMsg_same ⟨#[]⟩ ⟨#[]⟩ false
  have hm := guardMsg
  have E0 : ∀ n, Hid (¬ (e.kind = 3 ∧ r.calm = true ∧ (sideOf r e.station).told ≠ (sideOf r e.station).mark) → _) := fun n => told_end0 (e := e) (HC.out.keep (w' := W.drewN n) (Nat.le_refl _) (fun _ _ _ => rfl)) HCOL.out (below_drewN HB.out n) HS.out
  have E1 : ∀ n, Hid ((e.kind = 3 ∧ r.calm = true ∧ (sideOf r e.station).told ≠ (sideOf r e.station).mark) → _) := fun n => told_end1 (e := e) (HC.out.keep (w' := W.drewN n) (Nat.le_refl _) (fun _ _ _ => rfl)) HCOL.out (below_drewN HB.out n) HS.out
  have hW2 : sideB A e.station < W.heap.size := hlt2
  clear hc hc' hs hsc sz fz hcol hown hbel
  generalize hsd : sideOf r e.station = sd at *
  generalize hg : sideB A e.station = g at *
  have HSD := hide hsd
  clear hsd hg
  have dl : decide (sd.want.length ≤ sd.told) = false := by simp only [decide_eq_false_iff_not]; omega
  have lt : ¬ (sd.want.length : Int) ≤ (sd.told : Int) := by omega
  have wr : IntKind.i64.wrap ((sd.told : Int) + 1) = (sd.told : Int) + 1 := wrap_in _ (by omega) (by omega)
  rcases he with hk | hk
  · rw [hk] at e0
    have hn : ¬ (e.kind = 3 ∧ r.calm = true ∧ sd.told ≠ sd.mark) := by omega
    cases hh : sd.here
    · have hw : r.wild = true := by
        rcases o4 hk with k | k
        · rw [hh] at k; exact absurd k (by decide)
        · exact k
      rw [hh] at s2
      rw [hw] at c14
      have HE0 := fun n => hide ((E0 n).out hn)
      clear E0 E1 o4 hn hk hh hw HC HE
      go_wp2
      go_quiet (fail)
      go_wp2
      go_quiet (fail)
      go_wp2
      go_ret
      exact ⟨rfl, (HE0 _).out⟩
    · rw [hh] at s2
      have HE0 := fun n => hide ((E0 n).out hn)
      clear E0 E1 o4 hn hk hh HC HE
      go_wp2
      go_quiet (fail)
      go_wp2
      go_quiet (fail)
      go_wp2
      go_ret
      exact ⟨rfl, (HE0 _).out⟩
  · rw [hk] at e0
    cases hca : r.calm
    · rw [hca] at c15
      have hn : ¬ (e.kind = 3 ∧ r.calm = true ∧ sd.told ≠ sd.mark) := by rw [hca]; simp
      have HE0 := fun n => hide ((E0 n).out hn)
      clear E0 E1 o4 hn hk hca HC HE
      go_wp2
      go_quiet (fail)
      go_wp2
      go_quiet (fail)
      go_wp2
      go_ret
      exact ⟨rfl, (HE0 _).out⟩
    · rw [hca] at c15
      by_cases hmk : sd.told = sd.mark
      · have hn : ¬ (e.kind = 3 ∧ r.calm = true ∧ sd.told ≠ sd.mark) := fun k => k.2.2 hmk
        have HE0 := fun n => hide ((E0 n).out hn)
        rw [← hmk] at s3
        clear E0 E1 o4 hn hk hca hmk HC HE
        go_wp2
        go_quiet (fail)
        go_wp2
        go_quiet (fail)
        go_wp2
        go_ret
        exact ⟨rfl, (HE0 _).out⟩
      · have hn : e.kind = 3 ∧ r.calm = true ∧ sd.told ≠ sd.mark := ⟨hk, hca, hmk⟩
        have HE0 := fun n => hide ((E1 n).out hn)
        have dm : decide (sd.told = sd.mark) = false := by simp only [decide_eq_false_iff_not]; exact hmk
        have di : ((sd.told : Int) == (sd.mark : Int)) = false := by simp; omega
        clear E0 E1 o4 hn hk hca HC HE
        go_wp2
        go_quiet (fail)
        go_wp2
        go_quiet (fail)
        go_wp2
        go_ret
        exact ⟨rfl, (HE0 _).out⟩

end Go.Proofs.YtlbpjcphhocdkabGreatDoor
