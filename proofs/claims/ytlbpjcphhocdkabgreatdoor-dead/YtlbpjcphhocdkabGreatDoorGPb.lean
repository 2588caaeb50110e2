/-Plain: where a message is cut: the block at a place, by its bytes. Plain: what stays within bounds. Plain: what is heard of what was made: a block, a short transmission; cut short; with something behind it. Plain facts on turned bits, of no program: where a body is turned in a few bits in a row (with the check Xor: in one byte) it is no block's body. Plain: what is delivered is the message under way, unchanged, once; Sent is told of what was delivered: a tick. Plain: what is delivered is the message under way, unchanged, once; Sent is told of what was delivered: a tick, whole. Plain: the calm: what each station does where nothing is lost and nobody is busy, and the number that falls. Plain: the calm: what a tick does to the number, by the stations' modes. Plain: the calm: the number falls in each tick. Plain: the calm: all messages are told of in time. Plain: the calm: what began in the calm does not fail. Plain: the calm: what began in the calm does not fail: a tick. Plain: what is heard of what a station put: as it is, cut, or with a byte turned. Plain: what the calls on a line do to the document's line; what stays within bounds. Plain: a run of the harness: the line, what each side said, what was seen. -/
import Derived.Test.YtlbpjcphhocdkabGreatDoorGPa
namespace Go.Proofs.YtlbpjcphhocdkabGreatDoor.Mod

theorem chunk_get {α : Type} (n : Nat) (hn : 1 ≤ n) : ∀ f (l : List α), l.length ≤ f → ∀ i, (chunk n f l)[i]? = if i = 0 ∨ i * n < l.length then some ((l.drop (i * n)).take n) else none
  | 0, l, h, i => by
    have : l = [] := List.eq_nil_of_length_eq_zero (by omega)
    subst this
    cases i with
    | zero => simp [chunk]
    | succ i => simp [chunk]
  | f + 1, l, h, i => by
    unfold chunk
    by_cases hl : l.length ≤ n
    · rw [if_pos hl]
      cases i with
      | zero => simp [List.take_of_length_le hl]
      | succ i =>
        have : ¬ (i + 1 = 0 ∨ (i + 1) * n < l.length) := by
          have : n ≤ (i + 1) * n := Nat.le_mul_of_pos_left n (by omega)
          omega
        rw [if_neg this]
        simp
    · rw [if_neg hl]
      cases i with
      | zero => simp
      | succ i =>
        rw [List.getElem?_cons_succ, chunk_get n hn f (l.drop n) (by simp; omega) i]
        have e : (i + 1) * n = n + i * n := by rw [Nat.add_mul, Nat.one_mul, Nat.add_comm]
        rw [List.drop_drop, List.length_drop, e]
        by_cases h0 : i = 0
        · subst h0
          rw [if_pos (Or.inl rfl), if_pos (Or.inr (by omega))]
        · by_cases h1 : n + i * n < l.length
          · rw [if_pos (Or.inr (by omega)), if_pos (Or.inr h1)]
          · rw [if_neg (by omega), if_neg (by omega)]

theorem get_none {α : Type} {l : List α} {i : Nat} : l[i]? = none ↔ l.length ≤ i := List.getElem?_eq_none_iff
theorem chunk_len {α : Type} (n : Nat) (hn : 1 ≤ n) (f : Nat) (l : List α) (hl : l.length ≤ f) (i : Nat) : i < (chunk n f l).length ↔ i = 0 ∨ i * n < l.length := by
  have h := chunk_get n hn f l hl i
  by_cases hc : i = 0 ∨ i * n < l.length
  · rw [if_pos hc] at h
    exact ⟨fun _ => hc, fun _ => (List.getElem?_eq_some_iff.1 h).1⟩
  · rw [if_neg hc] at h
    have := get_none.1 h
    exact ⟨fun x => by omega, fun x => absurd x hc⟩

section
variable {c : Cfg} {m : Msg}
theorem piece_lt (hc : c.Ok) (i : Nat) : i < (pieces c m).length ↔ i = 0 ∨ i * c.size < m.text.length := chunk_len c.size hc.size.1 _ _ (Nat.le_refl _) i
theorem block_lt (hc : c.Ok) (j : Nat) : j < nblk c m ↔ j = 0 ∨ j * (c.size * c.parts) < m.text.length := by
  unfold nblk groups
  rw [chunk_len c.parts hc.parts.1 _ _ (Nat.le_refl _) j]
  constructor
  · rintro (h | h)
    · exact Or.inl h
    · rcases (piece_lt hc _).1 h with h | h
      · rcases Nat.mul_eq_zero.1 h with h | h
        · exact Or.inl h
        · have := hc.parts; omega
      · right
        rw [Nat.mul_comm c.size, ← Nat.mul_assoc]
        exact h
  · rintro (h | h)
    · exact Or.inl h
    · right
      rw [piece_lt hc]
      right
      rw [Nat.mul_assoc, Nat.mul_comm c.parts]
      exact h
/-- Is it the last one? -/
theorem block_last (hc : c.Ok) {j : Nat} (hj : j < nblk c m) : (blkAt c m j).last = decide (m.text.length ≤ j * (c.size * c.parts) + c.size * c.parts) := by
  have h := block_lt (m := m) hc (j + 1)
  have e : (j + 1) * (c.size * c.parts) = j * (c.size * c.parts) + c.size * c.parts := by rw [Nat.add_mul, Nat.one_mul]
  rw [e] at h
  show decide (j + 1 = nblk c m) = _
  apply decide_eq_decide.2
  constructor
  · intro h1
    have : ¬ j + 1 < nblk c m := by omega
    rw [h] at this
    omega
  · intro h1
    have : ¬ j + 1 < nblk c m := fun x => by rcases h.1 x with y | y <;> omega
    omega
/-- Its parts. -/
theorem block_parts (hc : c.Ok) {j : Nat} (hj : j < nblk c m) : (blkAt c m j).parts = chunk c.size ((m.text.drop (j * (c.size * c.parts))).take (c.size * c.parts)).length ((m.text.drop (j * (c.size * c.parts))).take (c.size * c.parts)) := by
  have hS := hc.size.1
  have hP := hc.parts.1
  have hpos : 1 ≤ c.size * c.parts := Nat.mul_le_mul hS hP
  have hg := chunk_get c.parts hP (pieces c m).length (pieces c m) (Nat.le_refl _) j
  have hj' := hj
  unfold nblk groups at hj'
  rw [chunk_len c.parts hP _ _ (Nat.le_refl _) j] at hj'
  rw [if_pos hj'] at hg
  have e : (blkAt c m j).parts = ((pieces c m).drop (j * c.parts)).take c.parts := by
    show (groups c m).getD j [] = _
    unfold groups
    rw [List.getD, hg]
    rfl
  rw [e]
  have hj2 : j = 0 ∨ j * (c.size * c.parts) < m.text.length := (block_lt hc j).1 hj
  apply List.ext_getElem?
  intro i
  rw [chunk_get c.size hS _ _ (Nat.le_refl _) i, List.getElem?_take, List.getElem?_drop]
  unfold pieces
  rw [chunk_get c.size hS _ _ (Nat.le_refl _)]
  simp only [List.length_take, List.length_drop]
  have e1 : (j * c.parts + i) * c.size = j * (c.size * c.parts) + i * c.size := by rw [Nat.add_mul, Nat.mul_assoc, Nat.mul_comm c.parts]
  rw [e1]
  by_cases hi : i < c.parts
  · rw [if_pos hi]
    have hi2 : i * c.size + c.size ≤ c.size * c.parts := by
      have : (i + 1) * c.size ≤ c.parts * c.size := Nat.mul_le_mul_right _ hi
      rw [Nat.add_mul, Nat.one_mul, Nat.mul_comm c.parts] at this
      exact this
    have hv : (m.text.drop (j * (c.size * c.parts) + i * c.size)).take c.size = (((m.text.drop (j * (c.size * c.parts))).take (c.size * c.parts)).drop (i * c.size)).take c.size := by
      rw [List.drop_take, List.take_take, List.drop_drop, Nat.min_eq_left (by omega)]
    rw [← hv]
    by_cases hi0 : i = 0
    · subst hi0
      rw [if_pos (Or.inl rfl)]
      rcases hj2 with rfl | hj2
      · simp
      · rw [if_pos (Or.inr (by omega))]
    · by_cases h1 : j * (c.size * c.parts) + i * c.size < m.text.length
      · rw [if_pos (Or.inr h1), if_pos (Or.inr (by omega))]
      · rw [if_neg ?_, if_neg (by omega)]
        rintro (h | h)
        · rcases Nat.eq_zero_of_add_eq_zero h with ⟨_, h⟩
          exact hi0 h
        · exact h1 h
  · rw [if_neg hi, if_neg ?_]
    have : c.parts * c.size ≤ i * c.size := Nat.mul_le_mul_right _ (by omega)
    rw [Nat.mul_comm c.parts] at this
    rintro (h | h)
    · omega
    · omega
end

/-- A message that may be sent. -/
def MsgFit (m : Msg) : Prop := Blk.headOk m.head = true ∧ m.text.length ≤ 200 ∧ (m.clear = true ∨ Blk.hasCtl m.text = false)

theorem hasCtl_sub {l r : List UInt8} (h : ∀ x ∈ r, x ∈ l) (hl : Blk.hasCtl l = false) : Blk.hasCtl r = false := by
  unfold Blk.hasCtl at *
  rw [List.any_eq_false] at *
  exact fun x hx => hl x (h x hx)

/-- Its blocks may be sent. -/
theorem blk_fit {c : Cfg} (hc : c.Ok) {m : Msg} (hm : MsgFit m) {j : Nat} (hj : j < nblk c m) : Blk.berr (blkAt c m j).head (blkAt c m j).parts (blkAt c m j).clear = 0 := by
  obtain ⟨h1, h2, h3⟩ := hm
  have hp := block_parts hc hj
  have hS := hc.size
  have hP := hc.parts
  generalize hT : (m.text.drop (j * (c.size * c.parts))).take (c.size * c.parts) = T at hp
  have hTl : T.length ≤ c.size * c.parts := by rw [← hT]; simp; omega
  have hlen := chunk_len c.size hS.1 T.length T (Nat.le_refl _)
  rw [← hp] at hlen
  have n1 : 1 ≤ (blkAt c m j).parts.length := by have := (hlen 0).2 (Or.inl rfl); omega
  have n2 : (blkAt c m j).parts.length ≤ 4 := by
    rcases Nat.lt_or_ge 4 (blkAt c m j).parts.length with h | h
    · rcases (hlen 4).1 h with h | h
      · omega
      · have : c.size * c.parts ≤ c.size * 4 := Nat.mul_le_mul_left _ hP.2
        omega
    · exact h
  have hh : Blk.headOk (blkAt c m j).head = true := by
    show Blk.headOk (if j = 0 then m.head else []) = true
    split
    · exact h1
    · rfl
  have hall : (blkAt c m j).parts.all (Blk.partOk (blkAt c m j).clear) = true := by
    rw [List.all_eq_true]
    intro x hx
    rw [hp] at hx
    have l1 := chunk_le c.size hS.1 _ _ (Nat.le_refl _) x hx
    have hsub : ∀ y ∈ x, y ∈ m.text := by
      intro y hy
      have : y ∈ (chunk c.size T.length T).flatten := List.mem_flatten.2 ⟨x, hx, hy⟩
      rw [chunk_flatten] at this
      rw [← hT] at this
      exact List.mem_of_mem_drop (List.mem_of_mem_take this)
    show (decide (x.length ≤ 32) && (m.clear || !Blk.hasCtl x)) = true
    rcases h3 with h3 | h3
    · rw [h3]; simp; omega
    · rw [hasCtl_sub hsub h3]; simp; omega
  unfold Blk.berr
  rw [if_neg (by rw [hh]; decide), if_neg (by omega), if_neg (by rw [hall]; decide)]

end Go.Proofs.YtlbpjcphhocdkabGreatDoor.Mod

namespace Go.Proofs.YtlbpjcphhocdkabGreatDoor.Pst
open Go.Proofs.YtlbpjcphhocdkabGreatDoor.Mod

/-- A station's numbers and messages are within bounds. -/
structure StB (c : Cfg) (now : Nat) (s : Stn) : Prop where
  qlen : s.queue.length ≤ 8
  qj : s.queue.length ≤ s.joined
  fit : ∀ m ∈ s.queue, MsgFit m
  off : s.mode = 1 ∨ s.mode = 2 → s.off ≤ c.waits
  blk : s.mode = 2 → s.block < nblk c (s.queue.headD noMsg)
  got : s.mode = 3 → (joinedM s.got).head.length ≤ 8 ∧ (joinedM s.got).text.length ≤ 200
  rest : s.rest ≤ now + 3

theorem StB.later' {c : Cfg} {now : Nat} {s : Stn} (h : StB c now s) : StB c (now + 1) s := ⟨h.qlen, h.qj, h.fit, h.off, h.blk, h.got, by have := h.rest; omega⟩
theorem ends_b {c : Cfg} {now i k : Nat} {s : Stn} (h : StB c now s) : StB c now (ends now i s k).1 := by
  refine ⟨?_, ?_, ?_, by simp [ends], by simp [ends], by simp [ends], Nat.le_refl _⟩
  · have := h.qlen; simp only [ends, List.length_tail]; omega
  · have := h.qj; simp only [ends, List.length_tail]; omega
  · intro m hm; exact h.fit m (List.mem_of_mem_tail hm)
theorem answers_b {c : Cfg} {now : Nat} {s : Stn} (h : StB c now s) : StB c now (answers c now s).1 := by
  unfold answers
  split
  · exact ⟨h.qlen, h.qj, h.fit, by simp, by simp, by simp, h.rest⟩
  · exact ⟨h.qlen, h.qj, h.fit, by simp, by simp, fun _ => ⟨by simp [joinedM], by simp [joinedM]⟩, h.rest⟩
theorem later_b {c : Cfg} {now i : Nat} {s : Stn} (h : StB c now s) : StB c now (later c now i s).1 := by
  unfold later
  split
  · rename_i hw
    have h' : StB c now { s with off := s.off + 1, mode := 0 } := ⟨h.qlen, h.qj, h.fit, by simp, by simp, by simp, h.rest⟩
    refine ⟨?_, ?_, ?_, by simp [ends], by simp [ends], by simp [ends], Nat.le_refl _⟩
    · have := h.qlen; simp only [ends, List.length_tail]; omega
    · have := h.qj; simp only [ends, List.length_tail]; omega
    · intro m hm; exact h.fit m (List.mem_of_mem_tail hm)
  · exact ⟨h.qlen, h.qj, h.fit, fun _ => by simp only; omega, h.blk, h.got, h.rest⟩
theorem send_b {c : Cfg} {now k t : Nat} {s : Stn} (h : StB c now s) (hb : k < nblk c (s.queue.headD noMsg)) : StB c now (sendBlk c now { s with mode := 2, block := k, tries := t, off := 0, free := false }).1 :=
  ⟨h.qlen, h.qj, h.fit, fun _ => Nat.zero_le _, fun _ => hb, by simp [sendBlk], h.rest⟩

theorem one_b {c : Cfg} {now i : Nat} {s : Stn} {q : Put} (h : Ans) (hs : StOk c now i s q) (hb : StB c now s) : StB c (now + 1) (one c (now + 1) i s h).1 := by
  have hl := hb.later'
  have hm3 := hs.mode
  unfold one named
  rcases (show s.mode = 0 ∨ s.mode = 1 ∨ s.mode = 2 ∨ s.mode = 3 by omega) with hm | hm | hm | hm
  · simp only [hm, if_neg (show ¬ (0 : Nat) = 1 by decide), if_neg (show ¬ (0 : Nat) = 2 by decide), if_neg (show ¬ (0 : Nat) = 3 by decide)]
    unfold idle
    split
    · rename_i d hd
      split at hd
      · cases hd; exact answers_b hl
      · cases hd
    · simp only [ne_eq, not_true_eq_false, false_and, if_false, true_and]
      split
      · exact ⟨hl.qlen, hl.qj, hl.fit, fun _ => Nat.zero_le _, by simp [bids], by simp [bids], hl.rest⟩
      · exact hl
  · simp only [hm, if_true]
    unfold bidding
    split
    · rename_i d hd
      split at hd
      · cases hd
        exact send_b hl (nblk_pos c _)
      · split at hd
        · cases hd; exact later_b hl
        · split at hd
          · cases hd; exact answers_b hl
          · cases hd
    · split
      · unfold over
        rw [if_neg (by omega)]
        split
        · exact ends_b hl
        · exact ⟨hl.qlen, hl.qj, hl.fit, hl.off, hl.blk, hl.got, hl.rest⟩
      · rw [if_neg (by simp)]
        exact hl
  · simp only [hm, if_neg (show ¬ (2 : Nat) = 1 by decide), if_true]
    unfold sending
    split
    · rename_i d hd
      split at hd
      · split at hd
        · cases hd; exact ends_b hl
        · rename_i hn
          cases hd
          have := hb.blk hm
          have h2 : s.block + 1 < nblk c (s.queue.headD noMsg) := by omega
          have hh := send_b (t := 1) hl h2
          refine ⟨hh.qlen, hh.qj, hh.fit, fun _ => Nat.zero_le _, fun _ => h2, ?_, hh.rest⟩
          intro h3
          have : s.mode = 3 := h3
          omega
      · split at hd
        · split at hd
          · cases hd; exact ends_b hl
          · cases hd
            exact ⟨hl.qlen, hl.qj, hl.fit, hl.off, hl.blk, hl.got, hl.rest⟩
        · split at hd
          · cases hd; exact later_b hl
          · cases hd
    · split
      · unfold over
        rw [if_neg (by omega)]
        split
        · exact ends_b hl
        · exact ⟨hl.qlen, hl.qj, hl.fit, hl.off, hl.blk, hl.got, hl.rest⟩
      · rw [if_neg (by simp)]
        exact hl
  · simp only [hm, if_neg (show ¬ (3 : Nat) = 1 by decide), if_neg (show ¬ (3 : Nat) = 2 by decide), if_true]
    have idl : StB c (now + 1) { s with mode := 0, got := [] } := ⟨hl.qlen, hl.qj, hl.fit, by simp, by simp, by simp, hl.rest⟩
    have same : StB c (now + 1) { s with due := now + 1 + c.lost } := ⟨hl.qlen, hl.qj, hl.fit, hl.off, hl.blk, hl.got, hl.rest⟩
    unfold receiving
    cases h with
    | data hd ps cl la =>
      simp only
      unfold takes
      split
      · exact same
      · rename_i hbig
        split
        · exact ⟨hl.qlen, hl.qj, hl.fit, by simp [hm], by simp [hm], fun _ => ⟨by simp [joinedM], by simp [joinedM]⟩, hl.rest⟩
        · exact ⟨hl.qlen, hl.qj, hl.fit, by simp [hm], by simp [hm], fun _ => ⟨by simp only; omega, by simp only; omega⟩, hl.rest⟩
    | none n =>
      simp only
      split
      · rename_i d hd
        split at hd
        · cases hd; exact same
        · split at hd
          · cases hd; exact same
          · split at hd
            · cases hd; exact answers_b hl
            · split at hd
              · cases hd; exact idl
              · cases hd
      · split
        · unfold over
          rw [if_pos hm]
          exact idl
        · rw [if_neg (by simp)]
          exact hl

end Go.Proofs.YtlbpjcphhocdkabGreatDoor.Pst

namespace Go.Proofs.YtlbpjcphhocdkabGreatDoor

theorem restL_skip (p r : List UInt8) (hp : ∀ u ∈ p, ¬ u.toNat = 22) : Prs.restL (p ++ r) = Prs.restL r := by
  induction p with
  | nil => rfl
  | cons a p ih =>
    have ha : Prs.syn a = false := by simp [Prs.syn, hp a (by simp)]
    rw [← ih (fun u hu => hp u (by simp [hu])), List.cons_append]
    cases hl : p ++ r with
    | nil => rfl
    | cons b t => simp [Prs.restL, ha]
theorem dropWhile_syn (b : List UInt8) (hb : ¬ (b.getD 0 0).toNat = 22) : b.dropWhile Prs.syn = b := by
  cases b with
  | nil => rfl
  | cons x t => exact List.dropWhile_cons_of_neg (by simpa [Prs.syn] using hb)
theorem restL_syns (m : Nat) (b : List UInt8) (hb : ¬ (b.getD 0 0).toNat = 22) : Prs.restL (List.replicate m 22 ++ (22 :: 22 :: b)) = b := by
  have e : List.replicate m (22 : UInt8) ++ (22 :: 22 :: b) = 22 :: 22 :: (List.replicate m 22 ++ b) := by
    have h1 : (22 :: 22 :: b : List UInt8) = List.replicate 2 22 ++ b := rfl
    rw [h1, ← List.append_assoc, List.replicate_append_replicate, Nat.add_comm, ← List.replicate_append_replicate, List.append_assoc]
    rfl
  rw [e]
  have h22 : Prs.syn 22 = true := rfl
  simp only [Prs.restL, h22, and_self, if_true]
  induction m with
  | zero => exact dropWhile_syn b hb
  | succ m ih =>
    rw [List.replicate_succ, List.cons_append, List.dropWhile_cons_of_pos h22]
    refine ih ?_
    rw [show List.replicate m (22 : UInt8) ++ (22 :: 22 :: b) = List.replicate m 22 ++ (List.replicate 2 22 ++ b) from rfl, ← List.append_assoc, List.replicate_append_replicate, Nat.add_comm, ← List.replicate_append_replicate, List.append_assoc]
    rfl

theorem body_head {h : List UInt8} {ps : List (List UInt8)} {c t : Bool} {k : Int} (x : List UInt8) (e : Blk.encE h ps c k = 0) :
    ∃ y, Blk.body h ps c t k ++ x = Blk.openL h c ++ y := by
  have hk : k = 0 ∨ k = 1 := by
    unfold Blk.encE at e
    split at e
    · assumption
    · omega
  have hz : Blk.berr h ps c = 0 := by unfold Blk.encE at e; rw [if_pos hk] at e; exact e
  exact Prs.Good.openR (k := k) (r := Blk.body h ps c t k ++ x) (t := t) ⟨hz, hk, rfl⟩
theorem encE_good {h : List UInt8} {ps : List (List UInt8)} {c : Bool} {k : Int} (t : Bool) (x : List UInt8) (e : Blk.encE h ps c k = 0) : Prs.Good k (Blk.body h ps c t k ++ x) h ps c t x := by
  have hk : k = 0 ∨ k = 1 := by
    unfold Blk.encE at e
    split at e
    · assumption
    · omega
  have hz : Blk.berr h ps c = 0 := by unfold Blk.encE at e; rw [if_pos hk] at e; exact e
  exact ⟨hz, hk, rfl⟩
theorem openL_first (h : List UInt8) (c : Bool) (y : List UInt8) : begins (Blk.openL h c ++ y) = true ∧ ¬ ((Blk.openL h c ++ y).getD 0 0).toNat = 22 := by
  unfold Blk.openL begins
  by_cases hn : h = []
  · subst hn; cases c <;> simp
  · cases c <;> simp [hn]
theorem good_begins {k : Int} {r h : List UInt8} {ps : List (List UInt8)} {c t : Bool} {x : List UInt8} (g : Prs.Good k r h ps c t x) : begins r = true ∧ ¬ (r.getD 0 0).toNat = 22 := by
  obtain ⟨y, rfl⟩ := g.openR
  exact openL_first h c y

/-- What is read where the rest is a block's body and PAD. -/
theorem reads_data {k : Int} {l h : List UInt8} {ps : List (List UInt8)} {c t : Bool} {A : Ans} (hr : ReadsAs k l A) (g : Prs.Good k (Prs.restL l) h ps c t [255]) : A = .data h ps c t :=
  hr.one (B := .data h ps c t) ⟨(good_begins g).1, g⟩

theorem body_len {h : List UInt8} {ps : List (List UInt8)} {c : Bool} (t : Bool) {k : Int} (e : Blk.encE h ps c k = 0) : 3 ≤ (Blk.body h ps c t k).length := by
  have hk : k = 0 ∨ k = 1 := by
    unfold Blk.encE at e
    split at e
    · assumption
    · omega
  have hz : Blk.berr h ps c = 0 := by unfold Blk.encE at e; rw [if_pos hk] at e; exact e
  obtain ⟨_, n1, _, _⟩ := Blk.berr_ok hz
  obtain ⟨y, hy⟩ := Prs.bodyTo_more h ps c t k 1 (ps.length - 1)
  rw [show 1 + (ps.length - 1) = ps.length by omega, show (1 : Nat) = 0 + 1 from rfl, Prs.bodyTo_pre] at hy
  unfold Blk.body
  rw [hy]
  simp only [List.length_append, Prs.pre, if_true, Prs.sum_len hk, Prs.esc_len]
  have : 1 ≤ (Blk.openL h c).length := by unfold Blk.openL; simp only [List.length_append, List.length_cons, List.length_nil]; omega
  have : 1 ≤ (if c then 2 else 1 : Nat) := by split <;> omega
  omega
theorem body_le {h : List UInt8} {ps : List (List UInt8)} {c : Bool} (t : Bool) {k : Int} (e : Blk.encE h ps c k = 0) : (Blk.body h ps c t k).length ≤ 316 := by
  have hk : k = 0 ∨ k = 1 := by
    unfold Blk.encE at e
    split at e
    · assumption
    · omega
  have hz : Blk.berr h ps c = 0 := by unfold Blk.encE at e; rw [if_pos hk] at e; exact e
  obtain ⟨g1, g2, g3, g4⟩ := Blk.berr_ok hz
  have h1 := Blk.bodyTo_length h ps c t k 32 (Blk.parts_le g4) ps.length
  have h2 : ps.length * (h.length + 2 * 32 + 7) ≤ 4 * (8 + 2 * 32 + 7) := Nat.mul_le_mul g3 (by have := Blk.headOk_le g1; omega)
  unfold Blk.body
  omega

theorem sbody_facts : ∀ K : Nat, 3 ≤ K → K ≤ 9 → begins (sbody K ++ [255]) = false ∧ ¬ ((sbody K ++ [255]).getD 0 0).toNat = 22 ∧ 1 ≤ (sbody K).length ∧ (sbody K).length ≤ 2 := by
  have key : ∀ K : Fin 10, 3 ≤ K.val → begins (sbody K.val ++ [255]) = false ∧ ¬ ((sbody K.val ++ [255]).getD 0 0).toNat = 22 ∧ 1 ≤ (sbody K.val).length ∧ (sbody K.val).length ≤ 2 := by decide
  intro K h1 h2
  exact key ⟨K, by omega⟩ h1
theorem short_reads {k : Int} {K : Nat} {l : List UInt8} {A : Ans} (h1 : 3 ≤ K) (h2 : K ≤ 9) (hl : l = [22, 22] ++ sbody K ++ [255]) (hr : ReadsAs k l A) : A = .none K := by
  have f := sbody_facts K h1 h2
  have e : Prs.restL l = sbody K ++ [255] := by
    rw [hl, show [22, 22] ++ sbody K ++ [255] = List.replicate 0 22 ++ (22 :: 22 :: (sbody K ++ [255])) by simp]
    exact restL_syns 0 _ f.2.1
  refine hr.one (B := .none K) (Or.inr ⟨by rw [e]; exact f.1, ?_⟩)
  rw [e]
  exact Or.inl ⟨h1, h2, rfl⟩

theorem short_cut {k : Int} {K j : Nat} {l : List UInt8} {A : Ans} (h1 : 3 ≤ K) (h2 : K ≤ 9) (hl : l = ([22, 22] ++ sbody K ++ [255]).take j) (hj : j < (sbody K).length + 3) (hr : ReadsAs k l A) : A = .none 0 := by
  have key : ∀ K : Fin 10, ∀ j : Fin 5, 3 ≤ K.val → j.val < (sbody K.val).length + 3 → begins (Prs.restL (([22, 22] ++ sbody K.val ++ [255]).take j.val)) = false ∧ ∀ m : Fin 10, 3 ≤ m.val → Prs.restL (([22, 22] ++ sbody K.val ++ [255]).take j.val) ≠ sbody m.val ++ [255] := by decide
  have hz := (sbody_facts K h1 h2).2.2.2
  have f := key ⟨K, by omega⟩ ⟨j, by omega⟩ h1 hj
  subst hl
  exact hr.one (B := .none 0) (Or.inr ⟨f.1, Or.inr ⟨rfl, fun m a b => f.2 ⟨m, by omega⟩ a⟩⟩)

theorem begins_take {r : List UInt8} {m : Nat} (h : begins r = true) (hm : 2 ≤ m) : begins (r.take m) = true := by
  have e0 : (r.take m).getD 0 0 = r.getD 0 0 := by simp [List.getD, show 0 < m by omega]
  have e1 : (r.take m).getD 1 0 = r.getD 1 0 := by simp [List.getD, show 1 < m by omega]
  unfold begins at *
  rw [e0, e1]
  exact h

theorem block_cut {k : Int} {h : List UInt8} {ps : List (List UInt8)} {c t : Bool} {j : Nat} {l : List UInt8} {A : Ans} (hE : Blk.encE h ps c k = 0) (hl : l = ([22, 22] ++ Blk.body h ps c t k ++ [255]).take j) (hj : j < (Blk.body h ps c t k).length + 3) (hr : ReadsAs k l A) :
    ∃ n, A = .none n ∧ (n = 0 ∨ n = 1) := by
  have g := encE_good t [255] hE
  have gb := good_begins g
  generalize hB : Blk.body h ps c t k ++ [255] = B at *
  have hBl : B.length = (Blk.body h ps c t k).length + 1 := by rw [← hB]; simp
  have e : [22, 22] ++ Blk.body h ps c t k ++ [255] = 22 :: 22 :: B := by rw [← hB]; simp
  rw [e] at hl
  by_cases hj2 : j ≤ 2
  · have hz : Prs.restL l = [] := by
      rw [hl]
      match j, hj2 with
      | 0, _ => rfl
      | 1, _ => rfl
      | 2, _ => rfl
    refine ⟨0, ?_, Or.inl rfl⟩
    refine hr.one (B := .none 0) (Or.inr ⟨by rw [hz]; rfl, Or.inr ⟨rfl, fun m _ _ => ?_⟩⟩)
    rw [hz]
    intro h
    have := congrArg List.length h
    simp at this
  · obtain ⟨i, rfl⟩ : ∃ i, j = i + 2 := ⟨j - 2, by omega⟩
    have hi : 1 ≤ i := by omega
    have hrest : Prs.restL l = B.take i := by
      rw [hl]
      show Prs.restL (22 :: 22 :: B.take i) = _
      refine restL_syns 0 _ ?_
      have e0 : (B.take i).getD 0 0 = B.getD 0 0 := by simp [List.getD, show 0 < i by omega]
      rw [e0]
      exact gb.2
    cases A with
    | none n =>
      refine ⟨n, rfl, ?_⟩
      rcases hr with ⟨_, rfl, _⟩ | ⟨hb, hs⟩
      · exact Or.inr rfl
      · rcases hs with ⟨h1, h2, h3⟩ | ⟨h1, _⟩
        · exfalso
          rw [hrest] at h3 hb
          have q := congrArg List.length h3
          have f := sbody_facts n h1 h2
          simp only [List.length_append, List.length_take, List.length_cons, List.length_nil] at q
          have hi2 : 2 ≤ i := by omega
          rw [begins_take gb.1 hi2] at hb
          cases hb
        · exact Or.inl h1
    | data h' ps' c' t' =>
      exfalso
      obtain ⟨_, g'⟩ := hr
      rw [hrest] at g'
      have g2 : Prs.Good k B h' ps' c' t' ([255] ++ B.drop i) := ⟨g'.ok, g'.kc, by
        have := List.take_append_drop i B
        rw [g'.eq, List.append_assoc] at this
        exact this.symm⟩
      have hx := (g.one g2).2.2.2.2
      have := congrArg List.length hx
      simp only [List.length_append, List.length_cons, List.length_nil, List.length_drop] at this
      omega

theorem block_tail {k : Int} {h : List UInt8} {ps : List (List UInt8)} {c t : Bool} {tl l : List UInt8} {A : Ans} (hE : Blk.encE h ps c k = 0) (hl : l = [22, 22] ++ Blk.body h ps c t k ++ [255] ++ tl) (ht : ¬ tl = []) (hr : ReadsAs k l A) : A = .none 1 := by
  have g := encE_good t ([255] ++ tl) hE
  have gb := good_begins g
  have hrest : Prs.restL l = Blk.body h ps c t k ++ ([255] ++ tl) := by
    rw [hl, show [22, 22] ++ Blk.body h ps c t k ++ [255] ++ tl = List.replicate 0 22 ++ (22 :: 22 :: (Blk.body h ps c t k ++ ([255] ++ tl))) by simp]
    exact restL_syns 0 _ gb.2
  refine hr.one (B := .none 1) (Or.inl ⟨by rw [hrest]; exact gb.1, rfl, fun h0 ps0 c0 t0 g' => ?_⟩)
  rw [hrest] at g'
  have hx := (g.one g').2.2.2.2
  have := congrArg List.length hx
  simp only [List.length_append, List.length_cons, List.length_nil] at this
  exact ht (List.eq_nil_of_length_eq_zero (by omega))
end Go.Proofs.YtlbpjcphhocdkabGreatDoor

namespace Go.Proofs.YtlbpjcphhocdkabGreatDoor.Bur
open Crc Blk

/-- The register takes turned bits apart. -/
theorem regN_xor (B D : Nat → Bool) (n : Nat) : regN (fun j => B j ^^ D j) n = regN B n ^^^ regN D n := by
  induction n with
  | zero => simp [regN]
  | succ n ih =>
    simp only [regN, ih, xor_half, Nat.testBit_xor]
    generalize regN B n = X
    generalize regN D n = Y
    have t : (if (B n ^^ D n ^^ (X.testBit 0 ^^ Y.testBit 0)) then 40961 else 0) = (if (B n ^^ X.testBit 0) then 40961 else 0) ^^^ (if (D n ^^ Y.testBit 0) then 40961 else 0 : Nat) := by
      generalize B n = a; generalize D n = b; generalize X.testBit 0 = c; generalize Y.testBit 0 = d
      cases a <;> cases b <;> cases c <;> cases d <;> simp
    rw [t]
    generalize (if (B n ^^ X.testBit 0) then 40961 else 0 : Nat) = P
    generalize (if (D n ^^ Y.testBit 0) then 40961 else 0 : Nat) = Q
    rw [Nat.xor_assoc, Nat.xor_assoc, ← Nat.xor_assoc (Y / 2), Nat.xor_comm (Y / 2) P, Nat.xor_assoc]

theorem regN_zero (B : Nat → Bool) (n : Nat) (h : ∀ j, j < n → B j = false) : regN B n = 0 := by
  induction n with
  | zero => rfl
  | succ n ih => rw [regN, ih (fun j hj => h j (by omega)), h n (by omega)]; rfl

theorem sh_zero {r : Nat} (hr : r < 65536) (h : sh r = 0) : r = 0 := by
  unfold sh at h
  split at h
  · exfalso
    have h1 : r / 2 = 40961 := by
      have := congrArg (· ^^^ 40961) h
      simp only [Nat.xor_assoc, Nat.xor_self, Nat.xor_zero, Nat.zero_xor] at this
      exact this
    omega
  · rename_i hp
    omega
theorem shN_zero (n : Nat) {r : Nat} (hr : r < 65536) (h : shN n r = 0) : r = 0 := by
  induction n with
  | zero => exact h
  | succ n ih => exact ih (sh_zero (shN_lt n hr) h)
theorem shN_of_zero (n : Nat) : shN n 0 = 0 := by
  induction n with
  | zero => rfl
  | succ n ih => rw [shN, ih]; rfl

/-- Behind the bits no bit is set: the register is 0 just if it was. -/
theorem regN_tail (B : Nat → Bool) (m n : Nat) (h : ∀ j, m ≤ j → B j = false) : regN B (m + n) = shN n (regN B m) := by
  induction n with
  | zero => rfl
  | succ n ih =>
    rw [← Nat.add_assoc, regN, ih, h (m + n) (by omega), shN, sh_eq]
    simp

theorem regN_inK (B : Nat → Bool) (m r c K : Nat) (hr : regN B m = r) (hb : ∀ k, k < K → B (m + k) = c.testBit k) :
    ∀ k, k ≤ K → regN B (m + k) = shN k (r ^^^ c) ^^^ (c / 2 ^ k) := by
  intro k
  induction k with
  | zero => intro _; simp [shN, hr, xor_cancel]
  | succ k ih =>
    intro hk
    have h := ih (by omega)
    have e : m + (k + 1) = (m + k) + 1 := by omega
    rw [e, regN, h, hb k (by omega), shN, sh_eq]
    generalize shN k (r ^^^ c) = S
    have t : (c.testBit k ^^ (S ^^^ c / 2 ^ k).testBit 0) = S.testBit 0 := by
      rw [Nat.testBit_xor, Nat.testBit_div_two_pow, Nat.zero_add]
      generalize S.testBit 0 = x
      generalize c.testBit k = y
      cases x <;> cases y <;> rfl
    rw [t, xor_half, half_pow]
    rw [Nat.xor_assoc, Nat.xor_comm (c / 2 ^ (k + 1)), ← Nat.xor_assoc]

/-- The number of some bits. -/
def num (D : Nat → Bool) (m : Nat) : Nat → Nat
  | 0 => 0
  | n + 1 => num D m n ^^^ (if D (m + n) then 2 ^ n else 0)
theorem num_bit (D : Nat → Bool) (m n k : Nat) : (num D m n).testBit k = (decide (k < n) && D (m + k)) := by
  induction n with
  | zero => simp [num]
  | succ n ih =>
    rw [num, Nat.testBit_xor, ih]
    by_cases h : D (m + n) = true
    · rw [if_pos h, Nat.testBit_two_pow]
      by_cases hk : n = k
      · subst hk; simp [h]
      · have e1 : decide (k < n + 1) = decide (k < n) := by simp only [decide_eq_decide]; omega
        simp [hk, e1]
    · rw [if_neg h]
      by_cases hk : n = k
      · subst hk; simp [h]
      · have e1 : decide (k < n + 1) = decide (k < n) := by simp only [decide_eq_decide]; omega
        simp [e1]
theorem num_lt (D : Nat → Bool) (m : Nat) : num D m 16 < 65536 := by
  refine Nat.lt_pow_two_of_testBit (n := 16) _ fun i hi => ?_
  rw [num_bit]
  simp
  omega

/-- At most 16 bits in a row leave something. -/
theorem burst_reg (D : Nat → Bool) (m N : Nat) (h0 : ∀ j, D j = true → m ≤ j ∧ j < m + 16 ∧ j < N) (h1 : ∃ j, D j = true) : ¬ regN D N = 0 := by
  intro hz
  have f : ∀ j, ¬ (m ≤ j ∧ j < m + 16 ∧ j < N) → D j = false := by
    intro j hj
    cases hd : D j
    · rfl
    · exact absurd (h0 j hd) hj
  have hm : regN D m = 0 := regN_zero D m (fun j hj => f j (by omega))
  have hw := regN_inK D m 0 (num D m 16) 16 hm (fun k hk => by rw [num_bit]; simp [hk]) 16 (Nat.le_refl _)
  rw [Nat.zero_xor, Nat.div_eq_of_lt (num_lt D m), Nat.xor_zero] at hw
  have hc : regN D (m + 16) = 0 := by
    by_cases hN : N ≤ m + 16
    · have := regN_tail D N (m + 16 - N) (fun j hj => f j (by omega))
      rw [show N + (m + 16 - N) = m + 16 by omega, hz, shN_of_zero] at this
      exact this
    · have := regN_tail D (m + 16) (N - (m + 16)) (fun j hj => f j (by omega))
      rw [show m + 16 + (N - (m + 16)) = N by omega, hz] at this
      exact shN_zero _ (regN_lt D _) this.symm
  rw [hw] at hc
  have hn := shN_zero 16 (num_lt D m) hc
  obtain ⟨j, hj⟩ := h1
  have hb := h0 j hj
  have := num_bit D m 16 (j - m)
  rw [hn, show m + (j - m) = j by omega, hj] at this
  simp at this
  omega

/-- What a good body leaves. -/
theorem crc_append (a b : List UInt8) : crc (a ++ b) = b.foldl (fun r c => shN 8 (r ^^^ c.toNat)) (crc a) := by simp [crc, List.foldl_append]
theorem crc_app_zero (a b : List UInt8) (ha : crc a = 0) : crc (a ++ b) = crc b := by rw [crc_append, ha]; rfl

theorem shN_even (k x : Nat) : shN k (x * 2 ^ k) = x := by
  induction k generalizing x with
  | zero => simp [shN]
  | succ k ih =>
    have e : x * 2 ^ (k + 1) = (x * 2) * 2 ^ k := by rw [Nat.pow_succ, Nat.mul_assoc, Nat.mul_comm 2]
    rw [shN, e, ih (x * 2)]
    unfold sh
    rw [if_neg (by omega)]
    omega
theorem xor_low (r : Nat) : r ^^^ (r % 256) = (r / 256) * 2 ^ 8 := by
  apply Nat.eq_of_testBit_eq
  intro i
  rw [Nat.testBit_xor, show (256 : Nat) = 2 ^ 8 from rfl, Nat.testBit_mod_two_pow, Nat.testBit_mul_two_pow, Nat.testBit_div_two_pow]
  by_cases h : i < 8
  · simp [h]; omega
  · have : 8 ≤ i := by omega
    simp [h, this]
theorem crc_check (l : List UInt8) : crc (l ++ crcS l) = 0 := by
  have hr := crc_lt l
  unfold crcS
  rw [show l ++ [UInt8.ofNat (crc l % 256), UInt8.ofNat (crc l / 256)] = (l ++ [UInt8.ofNat (crc l % 256)]) ++ [UInt8.ofNat (crc l / 256)] by simp, crc_snoc, crc_snoc]
  have e1 : (UInt8.ofNat (crc l % 256)).toNat = crc l % 256 := by simp
  have e2 : (UInt8.ofNat (crc l / 256)).toNat = crc l / 256 := by rw [UInt8.toNat_ofNat']; exact Nat.mod_eq_of_lt (by omega)
  rw [e1, e2, xor_low, shN_even, Nat.xor_self, shN_of_zero]
theorem xorB_append (a b : List UInt8) (ha : xorB a = 0) : xorB (a ++ b) = xorB b := by
  unfold xorB at *
  rw [List.foldl_append, ha]
theorem xorB_check (l : List UInt8) : xorB (l ++ xorS l) = 0 := by
  unfold xorS
  rw [xorB_snoc]
  have e1 : (UInt8.ofNat (xorB l)).toNat = xorB l := by rw [UInt8.toNat_ofNat']; exact Nat.mod_eq_of_lt (xorB_lt l)
  rw [e1, Nat.xor_self]

theorem body_crc (h : List UInt8) (ps : List (List UInt8)) (c t : Bool) (n : Nat) : crc (bodyTo h ps c t 1 n) = 0 := by
  induction n with
  | zero => rfl
  | succ n ih => rw [bodyTo, crc_app_zero _ _ ih]; exact crc_check _
theorem body_xor (h : List UInt8) (ps : List (List UInt8)) (c t : Bool) (n : Nat) : xorB (bodyTo h ps c t 0 n) = 0 := by
  induction n with
  | zero => rfl
  | succ n ih => rw [bodyTo, xorB_append _ _ ih]; exact xorB_check _

/-- The bits in which two lists part. -/
def dif (a b : List UInt8) (j : Nat) : Bool := bitAt a j ^^ bitAt b j

theorem byte_ext (x y : UInt8) (h : ∀ k, k < 8 → x.toNat.testBit k = y.toNat.testBit k) : x = y := by
  apply UInt8.toNat_inj.1
  apply Nat.eq_of_testBit_eq
  intro i
  by_cases hi : i < 8
  · exact h i hi
  · have hx : x.toNat < 2 ^ i := Nat.lt_of_lt_of_le (byte_lt x) (Nat.pow_le_pow_right (n := 2) (by decide) (show 8 ≤ i by omega))
    have hy : y.toNat < 2 ^ i := Nat.lt_of_lt_of_le (byte_lt y) (Nat.pow_le_pow_right (n := 2) (by decide) (show 8 ≤ i by omega))
    rw [Nat.testBit_lt_two_pow hx, Nat.testBit_lt_two_pow hy]
theorem dif_byte (a b : List UInt8) (i : Nat) (h : ∀ j, 8 * i ≤ j → j < 8 * i + 8 → dif a b j = false) : a.getD i 0 = b.getD i 0 := by
  refine byte_ext _ _ fun k hk => ?_
  have := h (8 * i + k) (by omega) (by omega)
  unfold dif at this
  rw [bitAt_in _ _ _ hk, bitAt_in _ _ _ hk] at this
  simpa using this

theorem cyclic_no (a b : List UInt8) (hl : a.length = b.length) (ha : crc a = 0) (hb : crc b = 0) (m : Nat) (h0 : ∀ j, dif a b j = true → m ≤ j ∧ j < m + 16) (h1 : ∃ j, dif a b j = true) : False := by
  have h2 : ∀ j, dif a b j = true → j < 8 * a.length := by
    intro j hj
    rcases Nat.lt_or_ge j (8 * a.length) with h | h
    · exact h
    · exfalso
      unfold dif bitAt at hj
      have e1 : a.getD (j / 8) 0 = 0 := by simp [List.getD, List.getElem?_eq_none (show a.length ≤ j / 8 by omega)]
      have e2 : b.getD (j / 8) 0 = 0 := by simp [List.getD, List.getElem?_eq_none (show b.length ≤ j / 8 by omega)]
      rw [e1, e2] at hj
      simp at hj
  refine burst_reg (dif a b) m (8 * a.length) (fun j hj => ⟨(h0 j hj).1, (h0 j hj).2, h2 j hj⟩) h1 ?_
  have e := regN_xor (bitAt a) (bitAt b) (8 * a.length)
  rw [regN_all a, hl, regN_all b, ha, hb] at e
  rw [hl]
  exact e

theorem xorB_cons (x : UInt8) (l : List UInt8) : xorB (x :: l) = x.toNat ^^^ xorB l := by
  have key : ∀ (l : List UInt8) (r : Nat), l.foldl (fun r c => r ^^^ c.toNat) r = r ^^^ xorB l := by
    intro l
    induction l with
    | nil => intro r; simp [xorB]
    | cons y l ih =>
      intro r
      rw [List.foldl_cons, ih]
      have e : xorB (y :: l) = List.foldl (fun r c => r ^^^ c.toNat) (0 ^^^ y.toNat) l := rfl
      rw [e, ih, Nat.zero_xor, Nat.xor_assoc]
  have e : xorB (x :: l) = List.foldl (fun r c => r ^^^ c.toNat) (0 ^^^ x.toNat) l := rfl
  rw [e, key, Nat.zero_xor]
theorem xor_no : ∀ (a b : List UInt8) (i : Nat), a.length = b.length → xorB a = xorB b → (∀ k, k ≠ i → a.getD k 0 = b.getD k 0) → a = b
  | [], [], _, _, _, _ => rfl
  | [], _ :: _, _, h, _, _ => by simp at h
  | _ :: _, [], _, h, _, _ => by simp at h
  | x :: a, y :: b, i, hl, hx, hk => by
    rw [xorB_cons, xorB_cons] at hx
    have hl' : a.length = b.length := by simpa using hl
    cases i with
    | zero =>
      have hab : a = b := by
        apply List.ext_getElem hl'
        intro k h1 h2
        have := hk (k + 1) (by omega)
        simpa [List.getD, List.getElem?_eq_getElem h1, List.getElem?_eq_getElem h2] using this
      subst hab
      have hxy : x.toNat = y.toNat := by
        have := congrArg (· ^^^ xorB a) hx
        simpa [Nat.xor_assoc] using this
      rw [UInt8.toNat_inj.1 hxy]
    | succ i =>
      have hxy : x = y := by simpa using hk 0 (by omega)
      subst hxy
      have hab : xorB a = xorB b := by
        have := congrArg (x.toNat ^^^ ·) hx
        simpa [← Nat.xor_assoc] using this
      rw [xor_no a b i hl' hab (fun k hne => by simpa using hk (k + 1) (by omega))]

/-- With the check k: bodies that part only within 16 bits in a row (k = 0: within the byte at m) are one. -/
theorem no_other {k : Int} (hk : k = 0 ∨ k = 1) {h h' : List UInt8} {ps ps' : List (List UInt8)} {c c' t t' : Bool} (m : Nat)
    (hl : (body h ps c t k).length = (body h' ps' c' t' k).length)
    (h0 : ∀ j, dif (body h ps c t k) (body h' ps' c' t' k) j = true → m ≤ j ∧ j < m + 16) (h8 : k = 0 → m % 8 = 0 ∧ ∀ j, dif (body h ps c t k) (body h' ps' c' t' k) j = true → j < m + 8)
    (h1 : ∃ j, dif (body h ps c t k) (body h' ps' c' t' k) j = true) : False := by
  rcases hk with rfl | rfl
  · obtain ⟨hm, h8'⟩ := h8 rfl
    have e := xor_no (body h ps c t 0) (body h' ps' c' t' 0) (m / 8) hl (by unfold body; rw [body_xor, body_xor]) (fun i hi => dif_byte _ _ i (fun j a b => by
      cases hd : dif (body h ps c t 0) (body h' ps' c' t' 0) j
      · rfl
      · exfalso
        have q1 := (h0 j hd).1
        have q2 := h8' j hd
        omega))
    obtain ⟨j, hj⟩ := h1
    rw [e] at hj
    unfold dif at hj
    simp at hj
  · exact cyclic_no _ _ hl (by unfold body; exact body_crc _ _ _ _ _) (by unfold body; exact body_crc _ _ _ _ _) m h0 h1
end Go.Proofs.YtlbpjcphhocdkabGreatDoor.Bur

namespace Go.Proofs.YtlbpjcphhocdkabGreatDoor.Mod

/-- What a tick tells of one direction. -/
structure DirStep (c : Cfg) (i j : Nat) (s t : Stn) (here : Bool) (ds dt : Did) (here' : Bool) : Prop where
  dir : Dir c ds.1 dt.1 ds.2.1 dt.2.1 here'
  came : ∀ e, dt.2.2 = some e → e.kind = 1 → here = false ∧ e = ⟨1, j, 0, mine s⟩ ∧ s.queue ≠ [] ∧ here' = true ∧ ds.2.2 = none
  told : ∀ e, ds.2.2 = some e → e.kind = 2 ∨ e.kind = 3 → (e.kind = 2 → here = true) ∧ here' = false ∧ e = ⟨e.kind, i, s.joined - s.queue.length + 1, noMsg⟩ ∧ ds.1.queue = s.queue.tail ∧ ds.1.joined = s.joined ∧ s.queue ≠ []
  else' : (∀ e, dt.2.2 = some e → e.kind ≠ 1) → (∀ e, ds.2.2 = some e → e.kind ≠ 2 ∧ e.kind ≠ 3) → here' = here
  keep : (∀ e, ds.2.2 = some e → e.kind ≠ 2 ∧ e.kind ≠ 3) → ds.1.queue = s.queue ∧ ds.1.joined = s.joined

theorem mine_mem {s : Stn} (h : s.queue ≠ []) : mine s ∈ s.queue := by
  unfold mine
  cases hq : s.queue with
  | nil => exact absurd hq h
  | cons a l => simp

/-- The kinds of a station's events, and what they do to its queue. -/
theorem ev_cases {c : Cfg} {T i : Nat} {s : Stn} {h : Ans} :
    ((one c T i s h).2.2 = none ∧ (one c T i s h).1.queue = s.queue ∧ (one c T i s h).1.joined = s.joined)
    ∨ (∃ m, (one c T i s h).2.2 = some ⟨1, i, 0, m⟩ ∧ s.mode = 3 ∧ kindOf h = 2 ∧ (one c T i s h).1.queue = s.queue ∧ (one c T i s h).1.joined = s.joined)
    ∨ (∃ k, (k = 2 ∨ k = 3) ∧ (one c T i s h).2.2 = some ⟨k, i, s.joined - s.queue.length + 1, noMsg⟩ ∧ (s.mode = 1 ∨ s.mode = 2 ∨ (s.mode ≠ 0 ∧ s.mode ≠ 3)) ∧ (k = 2 → s.mode = 2) ∧ (one c T i s h).1.queue = s.queue.tail ∧ (one c T i s h).1.joined = s.joined ∧ (one c T i s h).1.mode = 0) := by
  have ne : ∀ k, (k = 2 ∨ k = 3) → ∀ s' : Stn, s'.queue = s.queue → s'.joined = s.joined → (ends T i s' k).2.2 = some ⟨k, i, s.joined - s.queue.length + 1, noMsg⟩ ∧ (ends T i s' k).1.queue = s.queue.tail ∧ (ends T i s' k).1.joined = s.joined ∧ (ends T i s' k).1.mode = 0 := by
    intro k _ s' hq hj
    simp [ends, hq, hj]
  have la : (s.mode = 1 ∨ s.mode = 2) → ((later c T i s).2.2 = none ∧ (later c T i s).1.queue = s.queue ∧ (later c T i s).1.joined = s.joined) ∨ ((later c T i s).2.2 = some ⟨3, i, s.joined - s.queue.length + 1, noMsg⟩ ∧ (later c T i s).1.queue = s.queue.tail ∧ (later c T i s).1.joined = s.joined ∧ (later c T i s).1.mode = 0) := by
    intro _
    unfold later
    split
    · right; exact ne 3 (Or.inr rfl) _ rfl rfl
    · left; exact ⟨rfl, rfl, rfl⟩
  have ov : s.mode ≠ 3 → ((over c T i s).2.2 = none ∧ (over c T i s).1.queue = s.queue ∧ (over c T i s).1.joined = s.joined) ∨ ((over c T i s).2.2 = some ⟨3, i, s.joined - s.queue.length + 1, noMsg⟩ ∧ (over c T i s).1.queue = s.queue.tail ∧ (over c T i s).1.joined = s.joined ∧ (over c T i s).1.mode = 0) := by
    intro h3
    unfold over
    rw [if_neg h3]
    split
    · right; exact ne 3 (Or.inr rfl) _ rfl rfl
    · left; exact ⟨rfl, rfl, rfl⟩
  have an : (answers c T s).2.2 = none ∧ (answers c T s).1.queue = s.queue ∧ (answers c T s).1.joined = s.joined := by
    unfold answers
    split <;> exact ⟨rfl, rfl, rfl⟩
  by_cases h2 : s.mode = 2
  · rcases snd_out (c := c) (T := T) (i := i) (h := h) h2 with ⟨_, _, e⟩ | ⟨_, _, e⟩ | ⟨_, _, e | e⟩ | ⟨_, e⟩ | ⟨_, ⟨_, e⟩ | ⟨_, e⟩⟩
    · rw [e]
      obtain ⟨a, b, d, f⟩ := ne 2 (Or.inl rfl) s rfl rfl
      exact Or.inr (Or.inr ⟨2, Or.inl rfl, a, Or.inr (Or.inl h2), fun _ => h2, b, d, f⟩)
    · rw [e]; left; exact ⟨rfl, rfl, rfl⟩
    · rw [e]
      obtain ⟨a, b, d, f⟩ := ne 3 (Or.inr rfl) s rfl rfl
      exact Or.inr (Or.inr ⟨3, Or.inr rfl, a, Or.inr (Or.inl h2), fun _ => h2, b, d, f⟩)
    · rw [e]; left; exact ⟨rfl, rfl, rfl⟩
    · rw [e]
      rcases la (Or.inr h2) with x | ⟨a, b, d, f⟩
      · exact Or.inl x
      · exact Or.inr (Or.inr ⟨3, Or.inr rfl, a, Or.inr (Or.inl h2), fun _ => h2, b, d, f⟩)
    · rw [e]
      rcases ov (by omega) with x | ⟨a, b, d, f⟩
      · exact Or.inl x
      · exact Or.inr (Or.inr ⟨3, Or.inr rfl, a, Or.inr (Or.inl h2), fun _ => h2, b, d, f⟩)
    · rw [e]; left; exact ⟨rfl, rfl, rfl⟩
  · unfold one named
    by_cases h1 : s.mode = 1
    · rw [if_pos h1]
      unfold bidding
      by_cases k7 : kindOf h = 7
      · rw [if_pos k7]; left; exact ⟨rfl, rfl, rfl⟩
      · rw [if_neg k7]
        by_cases k9 : kindOf h = 9
        · rw [if_pos k9]
          rcases la (Or.inl h1) with x | ⟨a, b, d, f⟩
          · exact Or.inl x
          · exact Or.inr (Or.inr ⟨3, Or.inr rfl, a, Or.inl h1, fun h => by omega, b, d, f⟩)
        · rw [if_neg k9]
          by_cases k3 : kindOf h = 3 ∧ i = 1
          · rw [if_pos k3]; left; exact an
          · rw [if_neg k3]
            simp only
            by_cases hx : s.mode ≠ 0 ∧ T = s.due
            · rw [if_pos hx]
              rcases ov (by omega) with x | ⟨a, b, d, f⟩
              · exact Or.inl x
              · exact Or.inr (Or.inr ⟨3, Or.inr rfl, a, Or.inl h1, fun h => by omega, b, d, f⟩)
            · rw [if_neg hx, if_neg (by omega)]; left; exact ⟨rfl, rfl, rfl⟩
    · rw [if_neg h1, if_neg h2]
      by_cases h3 : s.mode = 3
      · rw [if_pos h3]
        unfold receiving
        cases h with
        | data a b d e =>
          simp only [takes]
          split
          · left; exact ⟨rfl, rfl, rfl⟩
          · split
            · right; left; exact ⟨_, rfl, h3, rfl, rfl, rfl⟩
            · left; exact ⟨rfl, rfl, rfl⟩
        | none n =>
          simp only
          left
          by_cases n1 : n = 1
          · rw [if_pos n1]; exact ⟨rfl, rfl, rfl⟩
          · rw [if_neg n1]
            by_cases n4 : n = 4
            · rw [if_pos n4]; exact ⟨rfl, rfl, rfl⟩
            · rw [if_neg n4]
              by_cases n3 : n = 3
              · rw [if_pos n3]; exact an
              · rw [if_neg n3]
                by_cases n5 : n = 5
                · rw [if_pos n5]; exact ⟨rfl, rfl, rfl⟩
                · rw [if_neg n5]
                  simp only
                  by_cases hx : s.mode ≠ 0 ∧ T = s.due
                  · rw [if_pos hx]
                    unfold over
                    rw [if_pos h3]
                    exact ⟨rfl, rfl, rfl⟩
                  · rw [if_neg hx, if_neg (by omega)]; exact ⟨rfl, rfl, rfl⟩
      · rw [if_neg h3]
        unfold idle
        by_cases k3 : kindOf h = 3
        · rw [if_pos k3]; left; exact an
        · rw [if_neg k3]
          simp only
          by_cases hx : s.mode ≠ 0 ∧ T = s.due
          · rw [if_pos hx]
            rcases ov h3 with x | ⟨a, b, d, f⟩
            · exact Or.inl x
            · exact Or.inr (Or.inr ⟨3, Or.inr rfl, a, Or.inr (Or.inr ⟨hx.1, h3⟩), fun h => by omega, b, d, f⟩)
          · rw [if_neg hx]
            left
            split <;> exact ⟨rfl, rfl, rfl⟩

/-- Who hears a block hears the one that was put. -/
theorem heard_data {q p : Put} {g : Ans} (hh : Hears q p g) (hk : kindOf g = 2) (hn : ∀ n, p = .short n → n ≠ 2) : q = .nil ∧ ∃ b : Bk, p = .blk b ∧ g = .data b.head b.parts b.clear b.last := by
  have a := heard_some hh (by omega)
  refine ⟨a.1, ?_⟩
  rcases hh with ⟨h, _⟩ | ⟨_, hm⟩
  · exact absurd a.1 h
  · cases p with
    | nil => exact absurd rfl a.2
    | short n =>
      rcases hm with rfl | rfl
      · exact absurd hk (hn n rfl)
      · simp [kindOf] at hk
    | blk b =>
      rcases hm with rfl | rfl | rfl
      · exact ⟨b, rfl, rfl⟩
      · simp [kindOf] at hk
      · simp [kindOf] at hk

/-- A station that is Sending and has put something goes on as it is. -/
theorem snd_rest {c : Cfg} {now i : Nat} {s : Stn} {p q : Put} {h : Ans} (hc : c.Ok) (hs : StOk c now i s p) (hm : s.mode = 2) (hp : p ≠ .nil) (hh : Hears p q h) : one c (now + 1) i s h = (s, .nil, none) := by
  rw [own_silence hh hp]
  rcases quiet_next hc hs hp with e | ⟨_, e, _⟩
  · exact e
  · omega

theorem dir_rest {c : Cfg} {now i j : Nat} {s t : Stn} {p q : Put} {here : Bool} {h g : Ans} (hs : StOk c now i s p) (hd : Dir c s t p q here) (hg : Hears q p g) (hm : s.mode ≠ 2) (hm' : (one c (now + 1) i s h).1.mode ≠ 2) :
    DirStep c i j s t here (one c (now + 1) i s h) (one c (now + 1) j t g) false := by
  have h0 := hd.off hm
  have g2 : ∀ k, k = 2 ∨ k = 4 → kindOf g ≠ k := fun k hk e => hm (heard_snd hs hg (by omega) (put_not_two hs))
  have hq : (∀ m ∈ (one c (now + 1) i s h).1.queue, MsgOk m) := by
    rcases ev_cases (c := c) (T := now + 1) (i := i) (s := s) (h := h) with ⟨_, e, _⟩ | ⟨_, _, _, _, e, _⟩ | ⟨_, _, _, _, _, e, _, _⟩
    · rw [e]; exact hd.msgs
    · rw [e]; exact hd.msgs
    · rw [e]; exact fun m hm => hd.msgs m (List.mem_of_mem_tail hm)
  refine ⟨⟨hq, fun _ => rfl, fun _ hq7 => ?_, fun e => absurd e hm'⟩, ?_, ?_, fun _ _ => h0.symm, ?_⟩
  · rcases put_seven hq7 with e | e | e
    · exact e
    · exact absurd e (g2 2 (Or.inl rfl))
    · exact absurd e (g2 4 (Or.inr rfl))
  · intro e he hk
    exfalso
    rcases ev_cases (c := c) (T := now + 1) (i := j) (s := t) (h := g) with ⟨x, _⟩ | ⟨m, x, _, k2, _⟩ | ⟨k, hk2, x, _⟩
    · rw [x] at he; cases he
    · exact g2 2 (Or.inl rfl) k2
    · rw [x] at he; simp at he; rw [← he] at hk; simp at hk; omega
  · intro e he hk
    rcases ev_cases (c := c) (T := now + 1) (i := i) (s := s) (h := h) with ⟨x, _⟩ | ⟨m, x, _⟩ | ⟨k, hk2, x, hmm, h2, e1, e2, _⟩
    · rw [x] at he; cases he
    · rw [x] at he; simp at he; rw [← he] at hk; simp at hk
    · rw [x] at he
      simp only [Option.some.injEq] at he
      subst he
      refine ⟨fun hk3 => absurd (h2 hk3) hm, rfl, rfl, e1, e2, ?_⟩
      have : s.mode = 1 := by
        rcases hmm with h | h | h
        · exact h
        · exact absurd h hm
        · have := hs.mode; omega
      exact hs.que (Or.inl this)
  · intro hn
    rcases ev_cases (c := c) (T := now + 1) (i := i) (s := s) (h := h) with ⟨_, e⟩ | ⟨_, _, _, _, e⟩ | ⟨k, hk2, x, _⟩
    · exact e
    · exact e
    · have := hn _ x
      simp only at this
      omega
end Go.Proofs.YtlbpjcphhocdkabGreatDoor.Mod

namespace Go.Proofs.YtlbpjcphhocdkabGreatDoor.Mod

/-- A step without events that keeps the queue. -/
theorem DirStep.plain {c : Cfg} {i j : Nat} {s t s' t' : Stn} {p' q' : Put} {here : Bool} (hd : Dir c s' t' p' q' here) (hq : s'.queue = s.queue) (hj : s'.joined = s.joined) : DirStep c i j s t here (s', p', none) (t', q', none) here :=
  ⟨hd, (fun e h => by cases h), (fun e h => by cases h), fun _ _ => rfl, fun _ => ⟨hq, hj⟩⟩

/-- A step in which the message under way is told of. -/
theorem DirStep.done {c : Cfg} {T i j k : Nat} {s s0 t t' : Stn} {q' : Put} {here : Bool} (hk : k = 2 ∨ k = 3) (hm : ∀ m ∈ s.queue, MsgOk m) (hq : s.queue ≠ []) (e1 : s0.queue = s.queue) (e2 : s0.joined = s.joined) (hh : k = 2 → here = true) :
    DirStep c i j s t here (ends T i s0 k) (t', q', none) false := by
  refine ⟨⟨?_, fun _ => rfl, (fun h => by simp [ends] at h), (fun h => by simp [ends] at h)⟩, (fun e h => by cases h), ?_, ?_, ?_⟩
  · intro m hm'
    simp only [ends, e1] at hm'
    exact hm m (List.mem_of_mem_tail hm')
  · intro e he _
    simp only [ends, Option.some.injEq, e1, e2] at he
    subst he
    exact ⟨hh, rfl, rfl, by simp [ends, e1], by simp [ends, e2], hq⟩
  · intro _ h
    have := h _ rfl
    simp only at this
    omega
  · intro h
    have := h _ rfl
    simp only at this
    omega

theorem dir_enter {c : Cfg} {now i j : Nat} {s t : Stn} {p q : Put} {here : Bool} {h g : Ans} (hc : c.Ok) (ht : StOk c now j t q) (hd : Dir c s t p q here) (hh : Hears p q h) (hg : Hears q p g) (hm : s.mode = 1) (k7 : kindOf h = 7) :
    DirStep c i j s t here (one c (now + 1) i s h) (one c (now + 1) j t g) here := by
  have hq := heard_short hh k7 (by omega)
  subst hq
  have a := put_answer ht (Or.inr (Or.inl rfl))
  have p3 := patience_ge hc 0 3
  have e3 : patience c 0 3 = c.lost := rfl
  rw [e3] at p3
  have et : one c (now + 1) j t g = (t, .nil, none) := by
    rw [own_silence hg (by simp)]
    exact one_still (Or.inr (Or.inr a.1)) (by omega)
  have es : one c (now + 1) i s h = sendBlk c (now + 1) { s with mode := 2, block := 0, tries := 1, off := 0, free := false } := by
    unfold one named
    rw [if_pos hm]
    unfold bidding
    rw [if_pos k7]
  have b := hd.bid hm rfl
  have h0 := hd.off (by omega)
  rw [es, et]
  refine DirStep.plain ⟨hd.msgs, (fun h => by simp at h), (fun h => by simp at h), fun _ => ⟨nblk_pos c _, Or.inl ⟨b.1, b.2, h0, ?_, ?_⟩⟩⟩ rfl rfl
  · intro b' hb'
    simp only [Put.blk.injEq] at hb'
    exact hb'.symm
  · intro k hk
    cases hk

theorem dir_snd {c : Cfg} {now i j : Nat} {s t : Stn} {p q : Put} {here : Bool} {h g : Ans} (hc : c.Ok) (hs : StOk c now i s p) (hk : Kept c s t) (hd : Dir c s t p q here) (hh : Hears p q h) (hg : Hears q p g) (hm : s.mode = 2) :
    ∃ here', DirStep c i j s t here (one c (now + 1) i s h) (one c (now + 1) j t g) here' := by
  obtain ⟨m3, hgu⟩ := hk hm
  obtain ⟨hn, hu⟩ := hd.snd hm
  have hq0 := hs.que (Or.inr hm)
  have hmm := hd.msgs _ (mine_mem hq0)
  have hb := hs.snd hm
  have g1 := gu_ge c s
  have stay : g = .none 0 → one c (now + 1) j t g = (t, .nil, none) := by
    intro e
    rw [e]
    exact one_still (Or.inr (Or.inr m3)) (by omega)
  by_cases hp : p = .nil
  · -- it put nothing: the other one stays as it is
    have et : one c (now + 1) j t g = (t, .nil, none) := by
      refine stay ?_
      rcases hg with ⟨_, e⟩ | ⟨_, e⟩
      · exact e
      · subst hp; exact e
    rw [et]
    have y := yes_or (s.block + 1)
    rcases snd_out (c := c) (T := now + 1) (i := i) (h := h) hm with ⟨ky, hl, e⟩ | ⟨ky, hl, e⟩ | ⟨ky, ka, e | e⟩ | ⟨k9, e⟩ | ⟨_, ⟨_, e⟩ | ⟨_, e⟩⟩
    · have hq := heard_short hh ky (by omega)
      have hhere : here = true := by
        rcases hu with ⟨_, _, _, _, u⟩ | ⟨_, u, _⟩
        · have := u _ hq y
          exact absurd this.symm (yes_ne s.block)
        · exact (u hl).2
      rw [e]
      exact ⟨false, DirStep.done (Or.inl rfl) hd.msgs hq0 rfl rfl (fun _ => hhere)⟩
    · have hq := heard_short hh ky (by omega)
      rw [e]
      rcases hu with ⟨_, _, _, _, u⟩ | ⟨u1, _, u2, _⟩
      · have := u _ hq y
        exact absurd this.symm (yes_ne s.block)
      · have u2 := u2 hl
        refine ⟨here, DirStep.plain ⟨hd.msgs, (fun h => absurd hm h), (fun h => by simp only at h; omega), fun _ => ⟨?_, Or.inl ⟨u1, u2.1, u2.2, ?_, ?_⟩⟩⟩ rfl rfl⟩
        · show s.block + 1 < nblk c (mine s)
          omega
        · intro b' hb'
          simp only [Put.blk.injEq] at hb'
          exact hb'.symm
        · intro k hk
          cases hk
    · rw [e]
      exact ⟨false, DirStep.done (Or.inr rfl) hd.msgs hq0 rfl rfl (fun h => by omega)⟩
    · rw [e]
      obtain ⟨k, hkk, hkr⟩ : ∃ k, kindOf h = k ∧ (k = 7 ∨ k = 8 ∨ k = 6) := ⟨_, rfl, ka⟩
      have hq := heard_short hh hkk (by omega)
      rcases hu with ⟨u1, u2, u3, u4, u5⟩ | ⟨_, _, _, _, u⟩
      · refine ⟨here, DirStep.plain ⟨hd.msgs, (fun h => absurd hm h), (fun h => by simp only at h; omega), fun _ => ⟨hn, Or.inl ⟨u1, u2, u3, ?_, ?_⟩⟩⟩ rfl rfl⟩
        · intro b' hb'
          simp only [Put.blk.injEq] at hb'
          exact hb'.symm
        · intro k hk
          cases hk
      · exfalso
        rcases u k hq with r | r
        · exact ky (hkk.trans r)
        · omega
    · rw [e]
      unfold later
      split
      · exact ⟨false, DirStep.done (Or.inr rfl) hd.msgs hq0 rfl rfl (fun h => by omega)⟩
      · refine ⟨here, DirStep.plain ⟨hd.msgs, (fun h => absurd hm h), (fun h => by simp only at h; omega), fun _ => ⟨hn, ?_⟩⟩ rfl rfl⟩
        rcases hu with ⟨u1, u2, u3, _, _⟩ | ⟨u1, u2, u3, _, _⟩
        · exact Or.inl ⟨u1, u2, u3, (fun b h => by cases h), (fun k h => by cases h)⟩
        · exact Or.inr ⟨u1, u2, u3, (fun b h => by cases h), (fun k h => by cases h)⟩
    · rw [e]
      unfold over
      rw [if_neg (by omega)]
      split
      · exact ⟨false, DirStep.done (Or.inr rfl) hd.msgs hq0 rfl rfl (fun h => by omega)⟩
      · refine ⟨here, DirStep.plain ⟨hd.msgs, (fun h => absurd hm h), (fun h => by simp only at h; omega), fun _ => ⟨hn, ?_⟩⟩ rfl rfl⟩
        rcases hu with ⟨u1, u2, u3, _, _⟩ | ⟨u1, u2, u3, _, _⟩
        · exact Or.inl ⟨u1, u2, u3, (fun b h => by cases h), (fun k h => by cases h)⟩
        · exact Or.inr ⟨u1, u2, u3, (fun b h => by cases h), (fun k h => by cases h)⟩
    · rw [e]
      refine ⟨here, DirStep.plain ⟨hd.msgs, (fun h => absurd hm h), (fun h => by omega), fun _ => ⟨hn, ?_⟩⟩ rfl rfl⟩
      rcases hu with ⟨u1, u2, u3, _, _⟩ | ⟨u1, u2, u3, _, _⟩
      · exact Or.inl ⟨u1, u2, u3, (fun b h => by cases h), (fun k h => by cases h)⟩
      · exact Or.inr ⟨u1, u2, u3, (fun b h => by cases h), (fun k h => by cases h)⟩
  · -- it put a block or an Ask: it stays as it is
    rw [snd_rest hc hs hm hp hh]
    have base : ∀ {t' : Stn} {q' : Put}, t'.count = t.count → t'.got = t.got → (∀ k, q' = .short k → k = yesN t.count ∨ k = 9 ∨ (k = 6 ∧ ∃ b, p = .blk b)) → DirStep c i j s t here (s, .nil, none) (t', q', none) here := by
      intro t' q' e1 e2 e3
      refine DirStep.plain ⟨hd.msgs, (fun h => absurd hm h), (fun h => by omega), fun _ => ⟨hn, ?_⟩⟩ rfl rfl
      rcases hu with ⟨u1, u2, u3, _, _⟩ | ⟨u1, u2, u3, u4, _⟩
      · refine Or.inl ⟨e1.trans u1, e2.trans u2, u3, (fun b h => by cases h), fun k h h78 => ?_⟩
        rcases e3 k h with r | r | r
        · rw [r, u1]
        · omega
        · omega
      · refine Or.inr ⟨e1.trans u1, fun h => ⟨e2.trans (u2 h).1, (u2 h).2⟩, fun h => ⟨e2.trans (u3 h).1, (u3 h).2⟩, (fun b h => by cases h), fun k h => ?_⟩
        rcases e3 k h with r | r | ⟨_, b, r⟩
        · left; rw [r, u1]
        · exact Or.inr r
        · exact absurd r (u4 b)
    have kg := heard_of_snd hs hm hg
    have rcvE : ∀ {x : Did}, receiving c (now + 1) j t g = some x → one c (now + 1) j t g = x := by
      intro x hx
      unfold one named
      rw [if_neg (by omega), if_neg (by omega), if_pos m3, hx]
    cases hgc : g with
    | data a b d e =>
      have hdt := heard_data hg (by rw [hgc]; rfl) (put_not_two hs)
      obtain ⟨_, b', hb', hge⟩ := hdt
      rw [hgc] at hge
      simp only [Ans.data.injEq] at hge
      obtain ⟨rfl, rfl, rfl, rfl⟩ := hge
      rcases hu with ⟨u1, u2, u3, u4, u5⟩ | ⟨_, _, _, u4, _⟩
      · have hbe := u4 b' hb'
        have et : one c (now + 1) j t g = takes c (now + 1) j t (blkAt c (mine s) s.block) := by
          refine rcvE ?_
          rw [hgc]
          unfold receiving
          simp only
          rw [← hbe]
        rw [← hgc, et, takes_good hmm u2 hn]
        have tl : ∀ k, tells { t with count := t.count + 1 } = .short k → k = yesN (s.block + 1) ∨ k = 9 := by
          intro k hk
          unfold tells at hk
          split at hk
          · simp at hk; omega
          · simp at hk; left; rw [← hk, u1]
        by_cases hl : s.block + 1 = nblk c (mine s)
        · rw [if_pos hl]
          refine ⟨true, ⟨⟨hd.msgs, (fun h => absurd hm h), (fun h => absurd (hm.symm.trans h) (by decide)), fun _ => ⟨hn, Or.inr ⟨by show t.count + 1 = _; rw [u1], fun _ => ⟨rfl, rfl⟩, fun h => absurd hl h, (fun b h => by cases h), tl⟩⟩⟩, ?_, (fun e h => by cases h), ?_, fun _ => ⟨rfl, rfl⟩⟩⟩
          · intro e he _
            simp only [Option.some.injEq] at he
            exact ⟨u3, he.symm, hq0, rfl, rfl⟩
          · intro h _
            have := h _ rfl
            exact absurd rfl this
        · rw [if_neg hl]
          refine ⟨here, DirStep.plain ⟨hd.msgs, (fun h => absurd hm h), (fun h => by omega), fun _ => ⟨hn, Or.inr ⟨by show t.count + 1 = _; rw [u1], fun h => absurd h hl, fun _ => ⟨rfl, u3⟩, (fun b h => by cases h), tl⟩⟩⟩ rfl rfl⟩
      · exact absurd hb' (u4 b')
    | none n =>
      rw [hgc] at kg
      have hn' : n = 0 ∨ n = 1 ∨ n = 2 ∨ n = 4 := kg
      rcases hn' with r | r | r | r
      · subst r
        rw [← hgc, stay hgc]
        exact ⟨here, base rfl rfl (fun k h => by cases h)⟩
      · subst r
        have et : one c (now + 1) j t g = ({ t with due := now + 1 + c.lost }, .short 6, none) := by
          refine rcvE ?_
          rw [hgc]
          rfl
        rw [← hgc, et]
        refine ⟨here, base rfl rfl (fun k h => ?_)⟩
        simp at h
        right; right
        refine ⟨h.symm, ?_⟩
        rcases put_snd hs hm with r | r | r
        · exact absurd r hp
        · exfalso
          rcases hg with ⟨_, e⟩ | ⟨_, e⟩
          · rw [hgc] at e; simp at e
          · rw [r, hgc] at e
            rcases e with e | e <;> simp at e
        · exact r
      · exfalso
        subst r
        have hdt := heard_data hg (by rw [hgc]; rfl) (put_not_two hs)
        obtain ⟨_, b', _, hge⟩ := hdt
        rw [hgc] at hge
        cases hge
      · subst r
        have et : one c (now + 1) j t g = ({ t with due := now + 1 + c.lost }, tells t, none) := by
          refine rcvE ?_
          rw [hgc]
          rfl
        rw [← hgc, et]
        refine ⟨here, base rfl rfl (fun k h => ?_)⟩
        unfold tells at h
        split at h
        · simp at h; omega
        · simp at h; left; exact h.symm

/-- A tick, one direction. -/
theorem dir_step {c : Cfg} {now i j : Nat} {s t : Stn} {p q : Put} {here : Bool} {h g : Ans} (hc : c.Ok) (hs : StOk c now i s p) (ht : StOk c now j t q) (hk : Kept c s t) (hd : Dir c s t p q here) (hh : Hears p q h) (hg : Hears q p g) :
    ∃ here', DirStep c i j s t here (one c (now + 1) i s h) (one c (now + 1) j t g) here' := by
  by_cases hm : s.mode = 2
  · exact dir_snd hc hs hk hd hh hg hm
  · by_cases hm' : (one c (now + 1) i s h).1.mode = 2
    · rcases snd_cases hs hm' with ⟨m1, k7, _⟩ | ⟨m2, _⟩ | ⟨m2, _⟩
      · exact ⟨here, dir_enter hc ht hd hh hg m1 k7⟩
      · exact absurd m2 hm
      · exact absurd m2 hm
    · exact ⟨false, dir_rest hs hd hg hm hm'⟩
end Go.Proofs.YtlbpjcphhocdkabGreatDoor.Mod

namespace Go.Proofs.YtlbpjcphhocdkabGreatDoor.Mod

/-- What is heard of what was put, where nothing is lost. -/
def exact' : Put → Ans
  | .nil => .none 0
  | .short k => .none k
  | .blk b => .data b.head b.parts b.clear b.last
def hE (q p : Put) : Ans := if q = .nil then exact' p else .none 0
theorem hE_hears (q p : Put) : Hears q p (hE q p) := by
  unfold hE
  by_cases h : q = .nil
  · rw [if_pos h]
    right
    refine ⟨h, ?_⟩
    cases p with
    | nil => rfl
    | short k => exact Or.inl rfl
    | blk b => exact Or.inl rfl
  · rw [if_neg h]
    exact Or.inl ⟨h, rfl⟩

theorem bid_out {c : Cfg} {T i : Nat} {s : Stn} {h : Ans} (hm : s.mode = 1) :
    (kindOf h = 7 ∧ one c T i s h = sendBlk c T { s with mode := 2, block := 0, tries := 1, off := 0, free := false })
    ∨ (kindOf h = 9 ∧ one c T i s h = later c T i s)
    ∨ (kindOf h = 3 ∧ i = 1 ∧ one c T i s h = answers c T s)
    ∨ (kindOf h ≠ 7 ∧ kindOf h ≠ 9 ∧ ¬ (kindOf h = 3 ∧ i = 1) ∧ ((T = s.due ∧ one c T i s h = over c T i s) ∨ (T ≠ s.due ∧ one c T i s h = (s, .nil, none)))) := by
  unfold one named
  rw [if_pos hm]
  unfold bidding
  by_cases k7 : kindOf h = 7
  · left; rw [if_pos k7]; exact ⟨k7, rfl⟩
  · right
    rw [if_neg k7]
    by_cases k9 : kindOf h = 9
    · left; rw [if_pos k9]; exact ⟨k9, rfl⟩
    · right
      rw [if_neg k9]
      by_cases k3 : kindOf h = 3 ∧ i = 1
      · left; rw [if_pos k3]; exact ⟨k3.1, k3.2, rfl⟩
      · right
        rw [if_neg k3]
        refine ⟨k7, k9, k3, ?_⟩
        simp only
        by_cases hx : T = s.due
        · left; rw [if_pos ⟨by omega, hx⟩]; exact ⟨hx, rfl⟩
        · right; rw [if_neg (fun h => hx h.2), if_neg (by omega)]; exact ⟨hx, rfl⟩
theorem idle_out {c : Cfg} {T i : Nat} {s : Stn} {h : Ans} (hm : s.mode = 0) :
    (kindOf h = 3 ∧ one c T i s h = answers c T s)
    ∨ (kindOf h ≠ 3 ∧ s.queue ≠ [] ∧ s.rest ≤ T ∧ one c T i s h = bids c T i s)
    ∨ (kindOf h ≠ 3 ∧ (s.queue = [] ∨ T < s.rest) ∧ one c T i s h = (s, .nil, none)) := by
  unfold one named
  rw [if_neg (by omega), if_neg (by omega), if_neg (by omega)]
  unfold idle
  by_cases k3 : kindOf h = 3
  · left; rw [if_pos k3]; exact ⟨k3, rfl⟩
  · right
    rw [if_neg k3]
    simp only
    rw [if_neg (by omega)]
    by_cases hx : s.mode = 0 ∧ s.queue ≠ [] ∧ s.rest ≤ T
    · left; rw [if_pos hx]; exact ⟨k3, hx.2.1, hx.2.2, rfl⟩
    · right
      rw [if_neg hx]
      refine ⟨k3, ?_, rfl⟩
      by_cases hq : s.queue = []
      · exact Or.inl hq
      · right
        rcases Nat.lt_or_ge T s.rest with h | h
        · exact h
        · exact absurd ⟨hm, hq, h⟩ hx
theorem rcv_out {c : Cfg} {T i : Nat} {s : Stn} {h : Ans} (hm : s.mode = 3) :
    (∃ b : Bk, h = .data b.head b.parts b.clear b.last ∧ one c T i s h = takes c T i s b)
    ∨ (h = .none 1 ∧ one c T i s h = ({ s with due := T + c.lost }, .short 6, none))
    ∨ (h = .none 4 ∧ one c T i s h = ({ s with due := T + c.lost }, tells s, none))
    ∨ (h = .none 3 ∧ one c T i s h = answers c T s)
    ∨ (h = .none 5 ∧ one c T i s h = ({ s with mode := 0, got := [] }, .nil, none))
    ∨ (kindOf h ≠ 2 ∨ h = .none 2) ∧ (h ≠ .none 5 ∧ kindOf h ≠ 3) ∧ ((T = s.due ∧ one c T i s h = ({ s with mode := 0, got := [] }, .nil, none)) ∨ (T ≠ s.due ∧ one c T i s h = (s, .nil, none))) := by
  unfold one named
  rw [if_neg (by omega), if_neg (by omega), if_pos hm]
  cases h with
  | data a b d e => left; exact ⟨⟨a, b, d, e⟩, rfl, rfl⟩
  | none n =>
    right
    unfold receiving
    simp only
    by_cases n1 : n = 1
    · left; rw [if_pos n1]; exact ⟨by rw [n1], rfl⟩
    · right
      rw [if_neg n1]
      by_cases n4 : n = 4
      · left; rw [if_pos n4]; exact ⟨by rw [n4], rfl⟩
      · right
        rw [if_neg n4]
        by_cases n3 : n = 3
        · left; rw [if_pos n3]; exact ⟨by rw [n3], rfl⟩
        · right
          rw [if_neg n3]
          by_cases n5 : n = 5
          · left; rw [if_pos n5]; exact ⟨by rw [n5], rfl⟩
          · right
            rw [if_neg n5]
            refine ⟨?_, ⟨by simp [n5], n3⟩, ?_⟩
            · by_cases n2 : n = 2
              · right; rw [n2]
              · left; exact n2
            · simp only
              by_cases hx : T = s.due
              · left
                rw [if_pos ⟨by omega, hx⟩]
                unfold over
                rw [if_pos hm]
                exact ⟨hx, rfl⟩
              · right
                rw [if_neg (fun h => hx h.2), if_neg (by omega)]
                exact ⟨hx, rfl⟩

/-- The number that falls: while a station is Sending. -/
def psiS (c : Cfg) (now : Nat) (s t : Stn) (p q : Put) : Nat :=
  match p with
  | .blk _ => 2
  | .short _ => if t.count = s.block then 4 else 2
  | .nil =>
    match q with
    | .short k => if k = 9 then c.reply + 5 else if k = yesN (s.block + 1) then 1 else 3
    | _ => (s.due - now) + 4
/-- How long till a station may bid, that is Idle or Receiving. -/
def ready (now : Nat) (s : Stn) : Nat := (if s.mode = 3 then s.due - now else 0) + (s.rest - (now + 1))
def psiI (now : Nat) (s0 s1 : Stn) : Nat := if s0.queue = [] then ready now s1 else if s1.queue = [] then ready now s0 else min (ready now s0) (ready now s1)
def psi (c : Cfg) (now : Nat) (s0 s1 : Stn) (p0 p1 : Put) : Nat :=
  if s0.mode = 2 then psiS c now s0 s1 p0 p1
  else if s1.mode = 2 then psiS c now s1 s0 p1 p0
  else if p0 = .short 3 ∧ p1 = .nil then 4
  else if p1 = .short 3 ∧ p0 = .nil ∧ s0.mode ≠ 1 then 4
  else if s0.mode = 1 ∧ p1 = .short 7 then 3
  else if s1.mode = 1 ∧ p0 = .short 7 then 3
  else if s0.mode = 1 ∧ s1.mode = 1 then (s0.due - now) + (if s1.due = s0.due then c.first else 0) + 4
  else if s0.mode = 1 then (if p1 = .short 9 then c.first + c.first + 5 else (s0.due - now) + c.first + 4)
  else if s1.mode = 1 then (if p0 = .short 9 then c.second + c.first + 5 else (s1.due - now) + c.first + 4)
  else psiI now s0 s1 + c.first + 5

def turnT (c : Cfg) : Nat := c.lost + 4 * c.second + (c.tries + 4) * c.reply + 10

theorem psiS_le {c : Cfg} {now i : Nat} {s t : Stn} {p q p' : Put} (hs : StOk c now i s p') (hm : s.mode = 2) (hc : c.Ok) : psiS c now s t p q ≤ c.reply + 5 := by
  have := hs.snd hm
  have := hc.reply
  unfold psiS
  cases p with
  | blk b => simp
  | short k => simp only; split <;> omega
  | nil =>
    cases q with
    | nil => simp only; omega
    | short k =>
      simp only
      split
      · omega
      · split <;> omega
    | blk b => simp only; omega
theorem ready_le {c : Cfg} {now i : Nat} {s : Stn} {p : Put} (hs : StOk c now i s p) (hr : s.rest ≤ now + 3) : ready now s ≤ c.lost + 2 := by
  unfold ready
  split
  · rename_i h
    have := hs.rcv h
    omega
  · omega
theorem psi_lt {c : Cfg} {now : Nat} {s0 s1 : Stn} {p0 p1 : Put} (hc : c.Ok) (h : Tok c now s0 s1 p0 p1) (r0 : s0.rest ≤ now + 3) (r1 : s1.rest ≤ now + 3) : psi c now s0 s1 p0 p1 < turnT c := by
  have f := hc.first
  have s := hc.second
  have r := hc.reply
  have l := hc.lost
  have ht : c.reply * 4 ≤ (c.tries + 4) * c.reply := by rw [Nat.mul_comm]; exact Nat.mul_le_mul_right _ (by omega)
  have q0 := ready_le h.a r0
  have q1 := ready_le h.b r1
  have e0 : patience c 0 1 = c.first := rfl
  have e1 : patience c 1 1 = c.second := rfl
  unfold turnT psi
  split
  · rename_i hm
    have := psiS_le (t := s1) (p := p0) (q := p1) h.a hm hc
    omega
  · split
    · rename_i hm
      have := psiS_le (t := s0) (p := p1) (q := p0) h.b hm hc
      omega
    · split
      · omega
      · split
        · omega
        · split
          · omega
          · split
            · omega
            · split
              · rename_i hm
                have := h.a.bid hm.1
                rw [e0] at this
                split <;> omega
              · split
                · rename_i hm
                  have := h.a.bid hm
                  rw [e0] at this
                  split <;> omega
                · split
                  · rename_i hm
                    have := h.b.bid hm
                    rw [e1] at this
                    split <;> omega
                  · unfold psiI
                    split
                    · omega
                    · split
                      · omega
                      · have := Nat.min_le_left (ready now s0) (ready now s1)
                        omega
end Go.Proofs.YtlbpjcphhocdkabGreatDoor.Mod

namespace Go.Proofs.YtlbpjcphhocdkabGreatDoor.Mod

def told (d : Did) : Prop := ∃ e, d.2.2 = some e ∧ (e.kind = 2 ∨ e.kind = 3)
theorem told_ends (T i : Nat) (s : Stn) (k : Nat) (hk : k = 2 ∨ k = 3) : told (ends T i s k) := ⟨_, rfl, hk⟩

/-- While a station is Sending. -/
theorem psiS_step {c : Cfg} {now i j : Nat} {s t : Stn} {p q : Put} {here : Bool} (hc : c.Ok) (hs : StOk c now i s p) (ht : StOk c now j t q) (hk : Kept c s t) (hd : Dir c s t p q here) (hb : t.busy = false) (hone : p ≠ .nil → q ≠ .nil → p = .short 3) (hm : s.mode = 2) :
    told (one c (now + 1) i s (hE p q)) ∨ ((one c (now + 1) i s (hE p q)).1.mode = 2 ∧ (one c (now + 1) i s (hE p q)).1.queue = s.queue ∧
      (((one c (now + 1) i s (hE p q)).1.block = s.block ∧ psiS c (now + 1) (one c (now + 1) i s (hE p q)).1 (one c (now + 1) j t (hE q p)).1 (one c (now + 1) i s (hE p q)).2.1 (one c (now + 1) j t (hE q p)).2.1 + 1 ≤ psiS c now s t p q)
       ∨ ((one c (now + 1) i s (hE p q)).1.block = s.block + 1 ∧ s.block + 1 < nblk c (mine s) ∧ psiS c (now + 1) (one c (now + 1) i s (hE p q)).1 (one c (now + 1) j t (hE q p)).1 (one c (now + 1) i s (hE p q)).2.1 (one c (now + 1) j t (hE q p)).2.1 ≤ psiS c now s t p q + 1))) := by
  obtain ⟨m3, hgu⟩ := hk hm
  obtain ⟨hn, hu⟩ := hd.snd hm
  have hq0 := hs.que (Or.inr hm)
  have hmm := hd.msgs _ (mine_mem hq0)
  have hbd := hs.snd hm
  have g1 := gu_ge c s
  have hh := hE_hears p q
  have hg := hE_hears q p
  have y := yes_or (s.block + 1)
  have yn := yes_ne s.block
  by_cases hp : p = .nil
  · subst hp
    have eg : hE q .nil = .none 0 := by
      unfold hE
      split <;> rfl
    have et : one c (now + 1) j t (hE q .nil) = (t, .nil, none) := by rw [eg]; exact one_still (Or.inr (Or.inr m3)) (by omega)
    have eh : hE .nil q = exact' q := by unfold hE; rw [if_pos rfl]
    rw [et, eh]
    have putq : q = .nil ∨ ∃ k, q = .short k ∧ (k = 6 ∨ k = 7 ∨ k = 8 ∨ k = 9) := by
      rcases ht.put with h | h | h | h | h | h | h | ⟨b, h⟩
      · exact Or.inl h
      · omega
      · omega
      · omega
      · rcases h.1 with h | h | h <;> exact Or.inr ⟨_, h, by omega⟩
      · exact Or.inr ⟨_, h.1, by omega⟩
      · omega
      · omega
    rcases putq with rfl | ⟨k, rfl, hk4⟩
    · -- nothing on the line
      rcases snd_out (c := c) (T := now + 1) (i := i) (h := exact' .nil) hm with ⟨ky, _, _⟩ | ⟨ky, _, _⟩ | ⟨_, ka, _⟩ | ⟨k9, _⟩ | ⟨_, ⟨hdue, e⟩ | ⟨hdue, e⟩⟩
      · simp [exact', kindOf] at ky; omega
      · simp [exact', kindOf] at ky; omega
      · simp [exact', kindOf] at ka
      · simp [exact', kindOf] at k9
      · rw [e]
        unfold over
        rw [if_neg (by omega)]
        split
        · exact Or.inl (told_ends _ _ _ _ (Or.inr rfl))
        · right
          refine ⟨hm, rfl, Or.inl ⟨rfl, ?_⟩⟩
          have : (if s.mode = 2 then 4 else 3 : Nat) = 4 := if_pos hm
          simp only [psiS]
          split <;> omega
      · rw [e]
        right
        refine ⟨hm, rfl, Or.inl ⟨rfl, ?_⟩⟩
        simp only [psiS]
        omega
    · have ek : kindOf (exact' (.short k)) = k := rfl
      rcases snd_out (c := c) (T := now + 1) (i := i) (h := exact' (.short k)) hm with ⟨ky, hl, e⟩ | ⟨ky, hl, e⟩ | ⟨ky, ka, e | e⟩ | ⟨k9, e⟩ | ⟨kn, _⟩
      · rw [e]; exact Or.inl (told_ends _ _ _ _ (Or.inl rfl))
      · rw [e]
        rw [ek] at ky
        right
        refine ⟨hm, rfl, Or.inr ⟨rfl, by omega, ?_⟩⟩
        simp only [sendBlk, psiS]
        rw [if_neg (by omega), if_pos ky]
        omega
      · rw [e]; exact Or.inl (told_ends _ _ _ _ (Or.inr rfl))
      · rw [e]
        rw [ek] at ky ka
        right
        refine ⟨hm, rfl, Or.inl ⟨rfl, ?_⟩⟩
        simp only [sendBlk, psiS]
        rw [if_neg (by omega), if_neg ky]
        omega
      · rw [e]
        rw [ek] at k9
        unfold later
        split
        · exact Or.inl (told_ends _ _ _ _ (Or.inr rfl))
        · right
          refine ⟨hm, rfl, Or.inl ⟨rfl, ?_⟩⟩
          have ep : patience c i s.mode = c.reply := by rw [hm]; rfl
          simp only [psiS, ep]
          rw [if_pos k9]
          omega
      · rw [ek] at kn; omega
  · -- a block or an Ask is on the line
    right
    rw [snd_rest hc hs hm hp hh]
    have hqn : q = .nil := by
      by_cases hq : q = .nil
      · exact hq
      · exfalso
        have := hone hp hq
        rcases put_snd hs hm with r | r | ⟨b, r⟩
        · exact hp r
        · rw [r] at this; simp at this
        · rw [r] at this; cases this
    subst hqn
    have eg : hE .nil p = exact' p := by unfold hE; rw [if_pos rfl]
    rw [eg]
    refine ⟨hm, rfl, Or.inl ⟨rfl, ?_⟩⟩
    have rcvE : ∀ {g : Ans} {x : Did}, receiving c (now + 1) j t g = some x → one c (now + 1) j t g = x := by
      intro g x hx
      unfold one named
      rw [if_neg (by omega), if_neg (by omega), if_pos m3, hx]
    rcases put_snd hs hm with r | r | ⟨b, r⟩
    · exact absurd r hp
    · subst r
      have et : one c (now + 1) j t (exact' (.short 4)) = ({ t with due := now + 1 + c.lost }, tells t, none) := rcvE rfl
      rw [et]
      have etl : tells t = .short (yesN t.count) := by unfold tells; rw [hb]; rfl
      simp only [psiS, etl]
      have y2 := yes_or t.count
      rw [if_neg (by omega)]
      rcases hu with ⟨u1, _⟩ | ⟨u1, _⟩
      · rw [if_pos u1, u1, if_neg yn]
        omega
      · rw [u1, if_pos rfl, if_neg (by omega)]
        omega
    · subst r
      rcases hu with ⟨u1, u2, _, u4, _⟩ | ⟨_, _, _, u4, _⟩
      · have hbe := u4 b rfl
        have et : one c (now + 1) j t (exact' (.blk b)) = takes c (now + 1) j t (blkAt c (mine s) s.block) := by
          refine rcvE ?_
          rw [← hbe]
          rfl
        rw [et, takes_good hmm u2 hn]
        have etl : tells { t with count := t.count + 1 } = .short (yesN (s.block + 1)) := by unfold tells; simp only [hb]; rw [u1]; rfl
        have key : ∀ t' : Stn, psiS c (now + 1) s t' .nil (.short (yesN (s.block + 1))) = 1 := by
          intro t'
          simp only [psiS]
          rw [if_neg (by omega), if_pos trivial]
        split
        · rw [etl, key]; simp [psiS]
        · rw [etl, key]; simp [psiS]
      · exact absurd rfl (u4 b)

/-- A station that bids, and hears neither Yes0 nor (station 1) a bid. -/
theorem bidU {c : Cfg} {T i : Nat} {s : Stn} {h : Ans} (hm : s.mode = 1) (h7 : kindOf h ≠ 7) (h3 : ¬ (kindOf h = 3 ∧ i = 1)) :
    told (one c T i s h) ∨ ((one c T i s h).1.mode = 1 ∧ (one c T i s h).1.queue = s.queue ∧
      ((kindOf h = 9 ∧ (one c T i s h).1.due = T + patience c i 1 ∧ (one c T i s h).2.1 = .nil)
       ∨ (kindOf h ≠ 9 ∧ T = s.due ∧ (one c T i s h).1.due = T + patience c i 1 ∧ (one c T i s h).2.1 = .short 3)
       ∨ (kindOf h ≠ 9 ∧ T ≠ s.due ∧ (one c T i s h).1.due = s.due ∧ (one c T i s h).2.1 = .nil))) := by
  rcases bid_out (c := c) (T := T) (i := i) (h := h) hm with ⟨k, _⟩ | ⟨k9, e⟩ | ⟨k, k1, _⟩ | ⟨_, k9, _, ⟨hx, e⟩ | ⟨hx, e⟩⟩
  · exact absurd k h7
  · rw [e]
    unfold later
    split
    · exact Or.inl (told_ends _ _ _ _ (Or.inr rfl))
    · right
      exact ⟨hm, rfl, Or.inl ⟨k9, by simp [hm], rfl⟩⟩
  · exact absurd ⟨k, k1⟩ h3
  · rw [e]
    unfold over
    rw [if_neg (by omega)]
    split
    · exact Or.inl (told_ends _ _ _ _ (Or.inr rfl))
    · right
      exact ⟨hm, rfl, Or.inr (Or.inl ⟨k9, hx, by simp [hm], by simp [hm]⟩)⟩
  · rw [e]
    right
    exact ⟨hm, rfl, Or.inr (Or.inr ⟨k9, hx, rfl, rfl⟩)⟩

/-- A station that is Idle or Receiving, and hears nothing that is named for it but End. -/
theorem restU {c : Cfg} {now i : Nat} {s : Stn} {p : Put} {h : Ans} (hs : StOk c now i s p) (hm : s.mode = 0 ∨ s.mode = 3) (hk : kindOf h = 0 ∨ kindOf h = 5 ∨ kindOf h = 6 ∨ kindOf h = 7 ∨ kindOf h = 8 ∨ kindOf h = 9) :
    (one c (now + 1) i s h).1.queue = s.queue ∧
    (((one c (now + 1) i s h).1.mode = 1 ∧ (one c (now + 1) i s h).1.due = now + 1 + patience c i 1 ∧ (one c (now + 1) i s h).2.1 = .short 3 ∧ s.mode = 0 ∧ s.queue ≠ [])
     ∨ (((one c (now + 1) i s h).1.mode = 0 ∨ (one c (now + 1) i s h).1.mode = 3) ∧ (one c (now + 1) i s h).2.1 = .nil ∧ (s.queue ≠ [] → ready (now + 1) (one c (now + 1) i s h).1 + 1 ≤ ready now s))) := by
  rcases hm with hm | hm
  · rcases idle_out (c := c) (T := now + 1) (i := i) (h := h) hm with ⟨k, _⟩ | ⟨_, hq, _, e⟩ | ⟨_, hx, e⟩
    · omega
    · rw [e]
      exact ⟨rfl, Or.inl ⟨rfl, rfl, rfl, hm, hq⟩⟩
    · rw [e]
      refine ⟨rfl, Or.inr ⟨Or.inl hm, rfl, fun hq => ?_⟩⟩
      rcases hx with h | h
      · exact absurd h hq
      · unfold ready
        simp only [hm]
        rw [if_neg (by decide)]
        omega
  · have hb := hs.rcv hm
    have r0 : ∀ s' : Stn, s'.mode = 0 → s'.rest = s.rest → ready (now + 1) s' + 1 ≤ ready now s := by
      intro s' h0 hr
      unfold ready
      rw [if_neg (by omega), if_pos hm, hr]
      omega
    rcases rcv_out (c := c) (T := now + 1) (i := i) (h := h) hm with ⟨b, e, _⟩ | ⟨e, _⟩ | ⟨e, _⟩ | ⟨e, _⟩ | ⟨_, e⟩ | ⟨_, _, ⟨_, e⟩ | ⟨hx, e⟩⟩
    · rw [e] at hk; simp [kindOf] at hk
    · rw [e] at hk; simp [kindOf] at hk
    · rw [e] at hk; simp [kindOf] at hk
    · rw [e] at hk; simp [kindOf] at hk
    · rw [e]
      exact ⟨rfl, Or.inr ⟨Or.inl rfl, rfl, fun _ => r0 _ rfl rfl⟩⟩
    · rw [e]
      exact ⟨rfl, Or.inr ⟨Or.inl rfl, rfl, fun _ => r0 _ rfl rfl⟩⟩
    · rw [e]
      refine ⟨rfl, Or.inr ⟨Or.inr hm, rfl, fun _ => ?_⟩⟩
      unfold ready
      simp only [hm]
      rw [if_pos trivial, if_pos trivial]
      omega

/-- Who hears a bid and is not busy says yes. -/
theorem hears_bid {c : Cfg} {T i : Nat} {s : Stn} (hb : s.busy = false) (hm : s.mode = 0 ∨ s.mode = 3 ∨ (s.mode = 1 ∧ i = 1)) : (one c T i s (.none 3)).1.mode = 3 ∧ (one c T i s (.none 3)).2.1 = .short 7 ∧ (one c T i s (.none 3)).1.queue = s.queue := by
  have ea : one c T i s (.none 3) = answers c T s := by
    rcases hm with h | h | ⟨h, h1⟩
    · unfold one named
      rw [if_neg (by omega), if_neg (by omega), if_neg (by omega)]
      rfl
    · unfold one named
      rw [if_neg (by omega), if_neg (by omega), if_pos h]
      rfl
    · unfold one named
      rw [if_pos h]
      unfold bidding
      rw [if_neg (show ¬ kindOf (.none 3) = 7 by decide), if_neg (show ¬ kindOf (.none 3) = 9 by decide), if_pos ⟨rfl, h1⟩]
  rw [ea]
  unfold answers
  rw [hb]
  exact ⟨rfl, rfl, rfl⟩

/-! The number, state by state. -/
theorem psi_X0 {c : Cfg} {now : Nat} {s0 s1 : Stn} (h0 : s0.mode ≠ 2) (h1 : s1.mode ≠ 2) : psi c now s0 s1 (.short 3) .nil = 4 := by
  unfold psi; rw [if_neg h0, if_neg h1, if_pos ⟨rfl, rfl⟩]
theorem psi_X1 {c : Cfg} {now : Nat} {s0 s1 : Stn} (h0 : s0.mode = 0 ∨ s0.mode = 3) (h1 : s1.mode ≠ 2) : psi c now s0 s1 .nil (.short 3) = 4 := by
  unfold psi; rw [if_neg (by omega), if_neg h1, if_neg (by simp), if_pos ⟨rfl, rfl, by omega⟩]
theorem psi_Y0 {c : Cfg} {now : Nat} {s0 s1 : Stn} {p0 : Put} (h0 : s0.mode = 1) (h1 : s1.mode ≠ 2) : psi c now s0 s1 p0 (.short 7) = 3 := by
  unfold psi; rw [if_neg (by omega), if_neg h1, if_neg (by simp), if_neg (by simp), if_pos ⟨h0, rfl⟩]
theorem psi_Y1 {c : Cfg} {now : Nat} {s0 s1 : Stn} {p1 : Put} (h0 : s0.mode ≠ 2 ∧ s0.mode ≠ 1) (h1 : s1.mode = 1) (hp : p1 ≠ .short 3) : psi c now s0 s1 (.short 7) p1 = 3 := by
  unfold psi; rw [if_neg h0.1, if_neg (by omega), if_neg (by simp), if_neg (fun h => hp h.1), if_neg (fun h => h0.2 h.1), if_pos ⟨h1, rfl⟩]
theorem psi_BB {c : Cfg} {now : Nat} {s0 s1 : Stn} {p0 p1 : Put} (h0 : s0.mode = 1) (h1 : s1.mode = 1) (hx : ¬ (p0 = .short 3 ∧ p1 = .nil)) (h7 : p1 ≠ .short 7 ∧ p0 ≠ .short 7) : psi c now s0 s1 p0 p1 = (s0.due - now) + (if s1.due = s0.due then c.first else 0) + 4 := by
  unfold psi; rw [if_neg (by omega), if_neg (by omega), if_neg hx, if_neg (fun h => h.2.2 h0), if_neg (fun h => h7.1 h.2), if_neg (fun h => h7.2 h.2), if_pos ⟨h0, h1⟩]
theorem psi_B0 {c : Cfg} {now : Nat} {s0 s1 : Stn} {p0 p1 : Put} (h0 : s0.mode = 1) (h1 : s1.mode = 0 ∨ s1.mode = 3) (hp : p0 ≠ .short 3) (h7 : p1 ≠ .short 7) : psi c now s0 s1 p0 p1 = (if p1 = .short 9 then c.first + c.first + 5 else (s0.due - now) + c.first + 4) := by
  unfold psi; rw [if_neg (by omega), if_neg (by omega), if_neg (fun h => hp h.1), if_neg (fun h => h.2.2 h0), if_neg (fun h => h7 h.2), if_neg (by omega), if_neg (by omega), if_pos h0]
theorem psi_B1 {c : Cfg} {now : Nat} {s0 s1 : Stn} {p0 p1 : Put} (h0 : s0.mode = 0 ∨ s0.mode = 3) (h1 : s1.mode = 1) (hp : p0 ≠ .short 3 ∧ p1 ≠ .short 3) (h7 : p0 ≠ .short 7) : psi c now s0 s1 p0 p1 = (if p0 = .short 9 then c.second + c.first + 5 else (s1.due - now) + c.first + 4) := by
  unfold psi; rw [if_neg (by omega), if_neg (by omega), if_neg (fun h => hp.1 h.1), if_neg (fun h => hp.2 h.1), if_neg (by omega), if_neg (fun h => h7 h.2), if_neg (by omega), if_neg (by omega), if_pos h1]
theorem psi_II {c : Cfg} {now : Nat} {s0 s1 : Stn} {p0 p1 : Put} (h0 : s0.mode = 0 ∨ s0.mode = 3) (h1 : s1.mode = 0 ∨ s1.mode = 3) (hp : p0 ≠ .short 3 ∧ p1 ≠ .short 3) : psi c now s0 s1 p0 p1 = psiI now s0 s1 + c.first + 5 := by
  unfold psi; rw [if_neg (by omega), if_neg (by omega), if_neg (fun h => hp.1 h.1), if_neg (fun h => hp.2 h.1), if_neg (by omega), if_neg (by omega), if_neg (by omega), if_neg (by omega), if_neg (by omega)]
end Go.Proofs.YtlbpjcphhocdkabGreatDoor.Mod

namespace Go.Proofs.YtlbpjcphhocdkabGreatDoor.Mod

/-- What a station that is no sender can have put. -/
theorem put_of {c : Cfg} {now i : Nat} {s : Stn} {p : Put} (hs : StOk c now i s p) :
    (s.mode = 1 → p = .nil ∨ (p = .short 3 ∧ s.due = now + patience c i 1)) ∧
    (s.mode = 0 ∨ s.mode = 3 → p = .nil ∨ ∃ k, p = .short k ∧ (k = 5 ∨ k = 6 ∨ k = 7 ∨ k = 8 ∨ k = 9)) := by
  refine ⟨fun hm => ?_, fun hm => ?_⟩
  · rcases hs.put with h | h | h | h | h | h | h | ⟨b, h⟩
    · exact Or.inl h
    · exact Or.inr ⟨h.1, h.2.2⟩
    all_goals omega
  · rcases hs.put with h | h | h | h | h | h | h | ⟨b, h⟩
    · exact Or.inl h
    · omega
    · omega
    · exact Or.inr ⟨_, h.1, by omega⟩
    · rcases h.1 with h | h | h <;> exact Or.inr ⟨_, h, by omega⟩
    · exact Or.inr ⟨_, h.1, by omega⟩
    · exact Or.inr ⟨_, h.1, by omega⟩
    · omega

theorem hE_own {q p : Put} (h : q ≠ .nil) : hE q p = .none 0 := by unfold hE; rw [if_neg h]
theorem hE_nil (p : Put) : hE .nil p = exact' p := by unfold hE; rw [if_pos rfl]
theorem hE_of_nil (q : Put) : hE q .nil = .none 0 := by unfold hE; split <;> rfl

/-- What one hears of another that is Idle or Receiving. -/
theorem kind_rest {c : Cfg} {now i : Nat} {s : Stn} {p q : Put} (hs : StOk c now i s p) (hm : s.mode = 0 ∨ s.mode = 3) : kindOf (hE q p) = 0 ∨ kindOf (hE q p) = 5 ∨ kindOf (hE q p) = 6 ∨ kindOf (hE q p) = 7 ∨ kindOf (hE q p) = 8 ∨ kindOf (hE q p) = 9 := by
  by_cases hq : q = .nil
  · subst hq
    rw [hE_nil]
    rcases (put_of hs).2 hm with rfl | ⟨k, rfl, hk⟩
    · exact Or.inl rfl
    · show k = 0 ∨ k = 5 ∨ k = 6 ∨ k = 7 ∨ k = 8 ∨ k = 9
      omega
  · rw [hE_own hq]; exact Or.inl rfl

theorem min_fall {a b x y : Nat} (h1 : x + 1 ≤ a) (h2 : y + 1 ≤ b) : min x y + 1 ≤ min a b := by
  rcases Nat.le_total x y with h | h
  · rw [Nat.min_eq_left h]
    exact Nat.le_min.2 ⟨h1, by omega⟩
  · rw [Nat.min_eq_right h]
    exact Nat.le_min.2 ⟨by omega, h2⟩

/-- Neither is Sending. -/
theorem psi_fall {c : Cfg} {now : Nat} {s0 s1 : Stn} {p0 p1 : Put} (hc : c.Ok) (h : Tok c now s0 s1 p0 p1) (b0 : s0.busy = false) (b1 : s1.busy = false) (hl : s0.queue ≠ [] ∨ s1.queue ≠ []) (n0 : s0.mode ≠ 2) (n1 : s1.mode ≠ 2) :
    told (one c (now + 1) 0 s0 (hE p0 p1)) ∨ told (one c (now + 1) 1 s1 (hE p1 p0)) ∨
    psi c (now + 1) (one c (now + 1) 0 s0 (hE p0 p1)).1 (one c (now + 1) 1 s1 (hE p1 p0)).1 (one c (now + 1) 0 s0 (hE p0 p1)).2.1 (one c (now + 1) 1 s1 (hE p1 p0)).2.1 + 1 ≤ psi c now s0 s1 p0 p1 := by
  have f := hc.first
  have sc := hc.second
  have e0 : patience c 0 1 = c.first := rfl
  have e1 : patience c 1 1 = c.second := rfl
  have m0 : s0.mode = 1 ∨ (s0.mode = 0 ∨ s0.mode = 3) := by have := h.a.mode; omega
  have m1 : s1.mode = 1 ∨ (s1.mode = 0 ∨ s1.mode = 3) := by have := h.b.mode; omega
  rcases m0 with m0 | m0 <;> rcases m1 with m1 | m1
  · -- both bid
    have q0 := (put_of h.a).1 m0
    have q1 := (put_of h.b).1 m1
    have d0 := h.a.bid m0
    have d1 := h.b.bid m1
    rw [e0] at q0 d0
    rw [e1] at q1 d1
    by_cases hx : p0 = .short 3 ∧ p1 = .nil
    · obtain ⟨rfl, rfl⟩ := hx
      right; right
      rw [psi_X0 n0 n1, hE_of_nil, hE_nil]
      have q : s0.due = now + c.first := by rcases q0 with h | h; cases h; exact h.2
      rw [one_still (c := c) (i := 0) (Or.inl m0) (show now + 1 ≠ s0.due by omega)]
      have b := hears_bid (c := c) (T := now + 1) (i := 1) b1 (Or.inr (Or.inr ⟨m1, rfl⟩))
      show psi c (now + 1) s0 _ .nil (one c (now + 1) 1 s1 (.none 3)).2.1 + 1 ≤ 4
      rw [show exact' (.short 3) = Ans.none 3 from rfl, b.2.1, psi_Y0 m0 (by rw [b.1]; decide)]
      omega
    · have k0 : kindOf (hE p0 p1) = 0 ∨ kindOf (hE p0 p1) = 3 := by
        rcases q0 with rfl | ⟨rfl, _⟩
        · rw [hE_nil]
          rcases q1 with rfl | ⟨rfl, _⟩
          · exact Or.inl rfl
          · exact Or.inr rfl
        · rw [hE_own (by simp)]; exact Or.inl rfl
      have k1 : kindOf (hE p1 p0) = 0 := by
        rcases q1 with rfl | ⟨rfl, _⟩
        · rcases q0 with rfl | ⟨rfl, _⟩
          · rfl
          · exact absurd ⟨rfl, rfl⟩ hx
        · rw [hE_own (by simp)]; rfl
      have h7 : p1 ≠ .short 7 ∧ p0 ≠ .short 7 := by
        refine ⟨fun e => ?_, fun e => ?_⟩
        · rcases q1 with r | ⟨r, _⟩ <;> rw [e] at r <;> simp at r
        · rcases q0 with r | ⟨r, _⟩ <;> rw [e] at r <;> simp at r
      rw [psi_BB m0 m1 hx h7]
      rcases bidU (c := c) (T := now + 1) (i := 0) (h := hE p0 p1) m0 (by omega) (by omega) with t | ⟨a1, _, a3⟩
      · exact Or.inl t
      · rcases bidU (c := c) (T := now + 1) (i := 1) (h := hE p1 p0) m1 (by omega) (by omega) with t | ⟨c1, _, c3⟩
        · exact Or.inr (Or.inl t)
        · right; right
          rw [e0] at a3
          rw [e1] at c3
          rcases a3 with ⟨k, _⟩ | ⟨_, u1, u2, u3⟩ | ⟨_, u1, u2, u3⟩
          · omega
          · rcases c3 with ⟨k, _⟩ | ⟨_, v1, v2, v3⟩ | ⟨_, v1, v2, v3⟩
            · omega
            · rw [psi_BB a1 c1 (by rw [u3, v3]; simp) (by rw [u3, v3]; simp), u2, v2, if_neg (by omega), if_pos (by omega)]
              omega
            · rw [u3, v3, psi_X0 (by rw [a1]; decide) (by rw [c1]; decide)]
              split <;> omega
          · rcases c3 with ⟨k, _⟩ | ⟨_, v1, v2, v3⟩ | ⟨_, v1, v2, v3⟩
            · omega
            · rw [psi_BB a1 c1 (by rw [u3]; simp) (by rw [u3, v3]; simp), u2, v2, if_neg (by omega)]
              split <;> omega
            · rw [psi_BB a1 c1 (by rw [u3]; simp) (by rw [u3, v3]; simp), u2, v2]
              split <;> omega
  · -- station 0 bids
    have q0 := (put_of h.a).1 m0
    have q1 := (put_of h.b).2 m1
    have d0 := h.a.bid m0
    rw [e0] at q0 d0
    rcases q0 with rfl | ⟨rfl, hdd⟩
    · by_cases h7 : p1 = .short 7
      · subst h7
        right; right
        rw [psi_Y0 m0 n1, hE_nil, hE_own (by simp)]
        have a := put_answer h.b (Or.inr (Or.inl rfl))
        have p3 := patience_ge hc 0 3
        have e3 : patience c 0 3 = c.lost := rfl
        rw [e3] at p3
        rw [one_still (c := c) (i := 1) (Or.inr (Or.inr a.1)) (show now + 1 ≠ s1.due by omega)]
        rcases bid_out (c := c) (T := now + 1) (i := 0) (h := exact' (.short 7)) m0 with ⟨_, e⟩ | ⟨k, _⟩ | ⟨k, _⟩ | ⟨k, _⟩
        · rw [e]
          show psi c (now + 1) (sendBlk c (now + 1) { s0 with mode := 2, block := 0, tries := 1, off := 0, free := false }).1 s1 _ .nil + 1 ≤ 3
          simp [psi, psiS, sendBlk]
        · exact absurd k (by decide)
        · exact absurd k (by decide)
        · exact absurd rfl k
      · rw [psi_B0 m0 m1 (by simp) h7, hE_of_nil, hE_nil]
        have kk : kindOf (exact' p1) = 0 ∨ kindOf (exact' p1) = 5 ∨ kindOf (exact' p1) = 6 ∨ kindOf (exact' p1) = 8 ∨ kindOf (exact' p1) = 9 := by
          rcases q1 with rfl | ⟨k, rfl, hk⟩
          · exact Or.inl rfl
          · show k = 0 ∨ k = 5 ∨ k = 6 ∨ k = 8 ∨ k = 9
            have : k ≠ 7 := fun e => h7 (by rw [e])
            omega
        have k9 : kindOf (exact' p1) = 9 ↔ p1 = .short 9 := by
          rcases q1 with rfl | ⟨k, rfl, hk⟩
          · constructor
            · intro h; exact absurd h (by decide)
            · intro h; cases h
          · constructor
            · intro h; have : k = 9 := h; rw [this]
            · intro h; simp at h; exact h
        rcases bidU (c := c) (T := now + 1) (i := 0) (h := exact' p1) m0 (by omega) (by omega) with t | ⟨a1, _, a3⟩
        · exact Or.inl t
        · right; right
          obtain ⟨_, r⟩ := restU (c := c) (h := .none 0) h.b m1 (Or.inl rfl)
          rw [e0] at a3
          rw [e1] at r
          rcases r with ⟨r1, r2, r3, _⟩ | ⟨r1, r2, _⟩
          · rcases a3 with ⟨k, u2, u3⟩ | ⟨k, u1, u2, u3⟩ | ⟨k, u1, u2, u3⟩
            · rw [psi_BB a1 r1 (by rw [u3]; simp) (by rw [u3, r3]; simp), u2, r2, if_neg (by omega), if_pos (k9.1 k)]
              omega
            · rw [psi_BB a1 r1 (by rw [u3, r3]; simp) (by rw [u3, r3]; simp), u2, r2, if_neg (by omega), if_neg (fun e => k (k9.2 e))]
              omega
            · rw [psi_BB a1 r1 (by rw [u3]; simp) (by rw [u3, r3]; simp), u2, r2, if_neg (by omega), if_neg (fun e => k (k9.2 e))]
              omega
          · rcases a3 with ⟨k, u2, u3⟩ | ⟨k, u1, u2, u3⟩ | ⟨k, u1, u2, u3⟩
            · rw [psi_B0 a1 r1 (by rw [u3]; simp) (by rw [r2]; simp), u2, r2, if_neg (by simp), if_pos (k9.1 k)]
              omega
            · rw [u3, r2, psi_X0 (by rw [a1]; decide) (by omega), if_neg (fun e => k (k9.2 e))]
              omega
            · rw [psi_B0 a1 r1 (by rw [u3]; simp) (by rw [r2]; simp), u2, r2, if_neg (by simp), if_neg (fun e => k (k9.2 e))]
              omega
    · -- its bid is on the line
      have hp1 : p1 = .nil := by
        by_cases hp : p1 = .nil
        · exact hp
        · have := (h.t (by simp) hp).2
          rcases q1 with r | ⟨k, r, hk⟩
          · exact r
          · rw [this] at r; simp at r; omega
      subst hp1
      right; right
      rw [psi_X0 n0 n1, hE_of_nil, hE_nil]
      rw [one_still (c := c) (i := 0) (Or.inl m0) (show now + 1 ≠ s0.due by omega)]
      have b := hears_bid (c := c) (T := now + 1) (i := 1) b1 (by omega)
      rw [show exact' (.short 3) = Ans.none 3 from rfl, b.2.1, psi_Y0 m0 (by rw [b.1]; decide)]
      omega
  · -- station 1 bids
    have q0 := (put_of h.a).2 m0
    have q1 := (put_of h.b).1 m1
    have d1 := h.b.bid m1
    rw [e1] at q1 d1
    have np0 : p0 ≠ .short 3 := by
      intro e
      rcases q0 with r | ⟨k, r, hk⟩
      · rw [e] at r; cases r
      · rw [e] at r; simp at r; omega
    rcases q1 with rfl | ⟨rfl, hdd⟩
    · by_cases h7 : p0 = .short 7
      · subst h7
        right; right
        rw [psi_Y1 (by omega) m1 (by simp), hE_nil, hE_own (by simp)]
        have a := put_answer h.a (Or.inr (Or.inl rfl))
        have p3 := patience_ge hc 0 3
        have e3 : patience c 0 3 = c.lost := rfl
        rw [e3] at p3
        rw [one_still (c := c) (i := 0) (Or.inr (Or.inr a.1)) (show now + 1 ≠ s0.due by omega)]
        rcases bid_out (c := c) (T := now + 1) (i := 1) (h := exact' (.short 7)) m1 with ⟨_, e⟩ | ⟨k, _⟩ | ⟨k, _⟩ | ⟨k, _⟩
        · rw [e]
          show psi c (now + 1) s0 (sendBlk c (now + 1) { s1 with mode := 2, block := 0, tries := 1, off := 0, free := false }).1 .nil _ + 1 ≤ 3
          simp [psi, psiS, sendBlk, n0]
        · exact absurd k (by decide)
        · exact absurd k (by decide)
        · exact absurd rfl k
      · rw [psi_B1 m0 m1 ⟨np0, by simp⟩ h7, hE_of_nil, hE_nil]
        have kk : kindOf (exact' p0) = 0 ∨ kindOf (exact' p0) = 5 ∨ kindOf (exact' p0) = 6 ∨ kindOf (exact' p0) = 8 ∨ kindOf (exact' p0) = 9 := by
          rcases q0 with rfl | ⟨k, rfl, hk⟩
          · exact Or.inl rfl
          · show k = 0 ∨ k = 5 ∨ k = 6 ∨ k = 8 ∨ k = 9
            have : k ≠ 7 := fun e => h7 (by rw [e])
            omega
        have k9 : kindOf (exact' p0) = 9 ↔ p0 = .short 9 := by
          rcases q0 with rfl | ⟨k, rfl, hk⟩
          · constructor
            · intro h; exact absurd h (by decide)
            · intro h; cases h
          · constructor
            · intro h; have : k = 9 := h; rw [this]
            · intro h; simp at h; exact h
        rcases bidU (c := c) (T := now + 1) (i := 1) (h := exact' p0) m1 (by omega) (by omega) with t | ⟨a1, _, a3⟩
        · exact Or.inr (Or.inl t)
        · right; right
          obtain ⟨_, r⟩ := restU (c := c) (h := .none 0) h.a m0 (Or.inl rfl)
          rw [e1] at a3
          rw [e0] at r
          rcases r with ⟨r1, r2, r3, _⟩ | ⟨r1, r2, _⟩
          · rcases a3 with ⟨k, u2, u3⟩ | ⟨k, u1, u2, u3⟩ | ⟨k, u1, u2, u3⟩
            · rw [r3, u3, psi_X0 (by rw [r1]; decide) (by rw [a1]; decide), if_pos (k9.1 k)]
              omega
            · rw [psi_BB r1 a1 (by rw [u3, r3]; simp) (by rw [u3, r3]; simp), r2, u2, if_neg (by omega), if_neg (fun e => k (k9.2 e))]
              omega
            · rw [r3, u3, psi_X0 (by rw [r1]; decide) (by rw [a1]; decide), if_neg (fun e => k (k9.2 e))]
              omega
          · rcases a3 with ⟨k, u2, u3⟩ | ⟨k, u1, u2, u3⟩ | ⟨k, u1, u2, u3⟩
            · rw [psi_B1 r1 a1 (by rw [r2, u3]; simp) (by rw [r2]; simp), u2, r2, if_neg (by simp), if_pos (k9.1 k)]
              omega
            · rw [u3, r2, psi_X1 r1 (by rw [a1]; decide), if_neg (fun e => k (k9.2 e))]
              omega
            · rw [psi_B1 r1 a1 (by rw [r2, u3]; simp) (by rw [r2]; simp), u2, r2, if_neg (by simp), if_neg (fun e => k (k9.2 e))]
              omega
    · have hp0 : p0 = .nil := by
        by_cases hp : p0 = .nil
        · exact hp
        · exact absurd (h.t hp (by simp)).1 np0
      subst hp0
      right; right
      rw [psi_X1 m0 n1, hE_of_nil, hE_nil]
      rw [one_still (c := c) (i := 1) (Or.inl m1) (show now + 1 ≠ s1.due by omega)]
      have b := hears_bid (c := c) (T := now + 1) (i := 0) b0 (by omega)
      rw [show exact' (.short 3) = Ans.none 3 from rfl, b.2.1, psi_Y1 (by rw [b.1]; decide) m1 (by simp)]
      omega
  · -- neither bids
    have q0 := (put_of h.a).2 m0
    have q1 := (put_of h.b).2 m1
    have np : p0 ≠ .short 3 ∧ p1 ≠ .short 3 := by
      refine ⟨fun e => ?_, fun e => ?_⟩
      · rcases q0 with r | ⟨k, r, hk⟩
        · rw [e] at r; cases r
        · rw [e] at r; simp at r; omega
      · rcases q1 with r | ⟨k, r, hk⟩
        · rw [e] at r; cases r
        · rw [e] at r; simp at r; omega
    right; right
    rw [psi_II m0 m1 np]
    obtain ⟨x0, r0⟩ := restU (c := c) (h := hE p0 p1) h.a m0 (kind_rest h.b m1)
    obtain ⟨x1, r1⟩ := restU (c := c) (h := hE p1 p0) h.b m1 (kind_rest h.a m0)
    rw [e0] at r0
    rw [e1] at r1
    rcases r0 with ⟨a1, a2, a3, _⟩ | ⟨a1, a2, a3⟩
    · rcases r1 with ⟨c1, c2, c3, _⟩ | ⟨c1, c2, c3⟩
      · rw [psi_BB a1 c1 (by rw [a3, c3]; simp) (by rw [a3, c3]; simp), a2, c2, if_neg (by omega)]
        omega
      · rw [a3, c2, psi_X0 (by rw [a1]; decide) (by omega)]
        omega
    · rcases r1 with ⟨c1, c2, c3, _⟩ | ⟨c1, c2, c3⟩
      · rw [a2, c3, psi_X1 a1 (by rw [c1]; decide)]
        omega
      · rw [psi_II a1 c1 (by rw [a2, c2]; simp)]
        have : psiI (now + 1) (one c (now + 1) 0 s0 (hE p0 p1)).1 (one c (now + 1) 1 s1 (hE p1 p0)).1 + 1 ≤ psiI now s0 s1 := by
          unfold psiI
          rw [x0, x1]
          by_cases y0 : s0.queue = []
          · rw [if_pos y0, if_pos y0]
            refine c3 ?_
            rcases hl with h | h
            · exact absurd y0 h
            · exact h
          · rw [if_neg y0, if_neg y0]
            by_cases y1 : s1.queue = []
            · rw [if_pos y1, if_pos y1]; exact a3 y0
            · rw [if_neg y1, if_neg y1]; exact min_fall (a3 y0) (c3 y1)
        omega
end Go.Proofs.YtlbpjcphhocdkabGreatDoor.Mod

namespace Go.Proofs.YtlbpjcphhocdkabGreatDoor.Mod

/-- The blocks that a station has still to bring over. -/
def rem (c : Cfg) (s : Stn) : Nat := (s.queue.map (nblk c)).sum - (if s.mode = 2 then s.block else 0)
def Phi (c : Cfg) (now : Nat) (s0 s1 : Stn) (p0 p1 : Put) : Nat := psi c now s0 s1 p0 p1 + turnT c * (s0.queue.length + s1.queue.length) + 2 * (rem c s0 + rem c s1)

theorem not_told_queue {c : Cfg} {T i : Nat} {s : Stn} {h : Ans} (hn : ¬ told (one c T i s h)) : (one c T i s h).1.queue = s.queue := by
  rcases ev_cases (c := c) (T := T) (i := i) (s := s) (h := h) with ⟨_, e, _⟩ | ⟨_, _, _, _, e, _⟩ | ⟨k, hk, x, _⟩
  · exact e
  · exact e
  · exact absurd ⟨_, x, hk⟩ hn
theorem told_queue {c : Cfg} {now i : Nat} {s : Stn} {p : Put} {h : Ans} (hs : StOk c now i s p) (ht : told (one c (now + 1) i s h)) : (one c (now + 1) i s h).1.queue = s.queue.tail ∧ s.queue ≠ [] ∧ (one c (now + 1) i s h).1.mode = 0 := by
  obtain ⟨e, he, hk⟩ := ht
  rcases ev_cases (c := c) (T := now + 1) (i := i) (s := s) (h := h) with ⟨x, _⟩ | ⟨_, x, _⟩ | ⟨k, _, _, hm, _, e1, _, e3⟩
  · rw [x] at he; cases he
  · rw [x] at he; simp at he; rw [← he] at hk; simp at hk
  · refine ⟨e1, hs.que ?_, e3⟩
    have := hs.mode
    omega

/-- A sender that is not told of goes on sending, never an earlier block. -/
theorem snd_block {c : Cfg} {T i : Nat} {s : Stn} {h : Ans} (hm : s.mode = 2) (hn : ¬ told (one c T i s h)) : (one c T i s h).1.mode = 2 ∧ s.block ≤ (one c T i s h).1.block := by
  rcases snd_out (c := c) (T := T) (i := i) (h := h) hm with ⟨_, _, e⟩ | ⟨_, _, e⟩ | ⟨_, _, e | e⟩ | ⟨_, e⟩ | ⟨_, ⟨_, e⟩ | ⟨_, e⟩⟩
  · rw [e] at hn; exact absurd (told_ends _ _ _ _ (Or.inl rfl)) hn
  · rw [e]; exact ⟨hm, Nat.le_succ _⟩
  · rw [e] at hn; exact absurd (told_ends _ _ _ _ (Or.inr rfl)) hn
  · rw [e]; exact ⟨hm, Nat.le_refl _⟩
  · rw [e] at hn ⊢
    unfold later at hn ⊢
    split
    · rename_i hx
      rw [if_pos hx] at hn
      exact absurd (told_ends _ _ _ _ (Or.inr rfl)) hn
    · exact ⟨hm, Nat.le_refl _⟩
  · rw [e] at hn ⊢
    unfold over at hn ⊢
    rw [if_neg (by omega)] at hn ⊢
    split
    · rename_i hx
      rw [if_pos hx] at hn
      exact absurd (told_ends _ _ _ _ (Or.inr rfl)) hn
    · exact ⟨hm, Nat.le_refl _⟩
  · rw [e]; exact ⟨hm, Nat.le_refl _⟩

theorem rem_le {c : Cfg} {now i : Nat} {s : Stn} {p : Put} {h : Ans} (hs : StOk c now i s p) (hb : s.mode = 2 → s.block < nblk c (mine s)) : rem c (one c (now + 1) i s h).1 ≤ rem c s := by
  by_cases ht : told (one c (now + 1) i s h)
  · obtain ⟨e1, e2, e3⟩ := told_queue hs ht
    unfold rem
    rw [e1, e3, if_neg (by decide)]
    cases hq : s.queue with
    | nil => exact absurd hq e2
    | cons m l =>
      simp only [List.tail_cons, List.map_cons, List.sum_cons, Nat.sub_zero]
      split
      · rename_i hm
        have := hb hm
        unfold mine at this
        rw [hq] at this
        simp only [List.headD_cons] at this
        omega
      · omega
  · have e1 := not_told_queue ht
    unfold rem
    rw [e1]
    by_cases hm : s.mode = 2
    · have := snd_block hm ht
      rw [if_pos this.1, if_pos hm]
      omega
    · rw [if_neg hm]
      omega

/-- The state in the calm. -/
structure CalmSt (c : Cfg) (now : Nat) (s0 s1 : Stn) (p0 p1 : Put) : Prop where
  tok : Tok c now s0 s1 p0 p1
  d0 : ∃ h, Dir c s0 s1 p0 p1 h
  d1 : ∃ h, Dir c s1 s0 p1 p0 h
  b0 : s0.busy = false
  b1 : s1.busy = false
  r0 : s0.rest ≤ now + 3
  r1 : s1.rest ≤ now + 3

theorem one_busy {c : Cfg} {T i : Nat} {s : Stn} {h : Ans} : (one c T i s h).1.busy = s.busy := by
  have en : ∀ (s' : Stn) k, (ends T i s' k).1.busy = s'.busy := fun _ _ => rfl
  have an : (answers c T s).1.busy = s.busy := by unfold answers; split <;> rfl
  have la : (later c T i s).1.busy = s.busy := by unfold later; split <;> rfl
  have ov : (over c T i s).1.busy = s.busy := by
    unfold over
    split
    · rfl
    · split <;> rfl
  by_cases h2 : s.mode = 2
  · rcases snd_out (c := c) (T := T) (i := i) (h := h) h2 with ⟨_, _, e⟩ | ⟨_, _, e⟩ | ⟨_, _, e | e⟩ | ⟨_, e⟩ | ⟨_, ⟨_, e⟩ | ⟨_, e⟩⟩ <;> rw [e]
    · rfl
    · rfl
    · rfl
    · rfl
    · exact la
    · exact ov
  · by_cases h1 : s.mode = 1
    · rcases bid_out (c := c) (T := T) (i := i) (h := h) h1 with ⟨_, e⟩ | ⟨_, e⟩ | ⟨_, _, e⟩ | ⟨_, _, _, ⟨_, e⟩ | ⟨_, e⟩⟩ <;> rw [e]
      · rfl
      · exact la
      · exact an
      · exact ov
    · by_cases h3 : s.mode = 3
      · rcases rcv_out (c := c) (T := T) (i := i) (h := h) h3 with ⟨b, _, e⟩ | ⟨_, e⟩ | ⟨_, e⟩ | ⟨_, e⟩ | ⟨_, e⟩ | ⟨_, _, ⟨_, e⟩ | ⟨_, e⟩⟩ <;> rw [e]
        · unfold takes
          split
          · rfl
          · split <;> rfl
        · exact an
      · unfold one named
        rw [if_neg h1, if_neg h2, if_neg h3]
        unfold idle
        by_cases k3 : kindOf h = 3
        · rw [if_pos k3]; exact an
        · rw [if_neg k3]
          simp only
          split
          · exact ov
          · split <;> rfl
theorem one_rest {c : Cfg} {now i : Nat} {s : Stn} {h : Ans} (hr : s.rest ≤ now + 3) : (one c (now + 1) i s h).1.rest ≤ now + 1 + 3 := by
  have en : ∀ (s' : Stn) k, (ends (now + 1) i s' k).1.rest = now + 1 + 3 := fun _ _ => rfl
  have an : (answers c (now + 1) s).1.rest ≤ now + 1 + 3 := by unfold answers; split <;> (simp only; omega)
  have la : (later c (now + 1) i s).1.rest ≤ now + 1 + 3 := by
    unfold later
    split
    · exact Nat.le_refl _
    · simp only; omega
  have ov : (over c (now + 1) i s).1.rest ≤ now + 1 + 3 := by
    unfold over
    split
    · simp only; omega
    · split
      · exact Nat.le_refl _
      · simp only; omega
  by_cases h2 : s.mode = 2
  · rcases snd_out (c := c) (T := now + 1) (i := i) (h := h) h2 with ⟨_, _, e⟩ | ⟨_, _, e⟩ | ⟨_, _, e | e⟩ | ⟨_, e⟩ | ⟨_, ⟨_, e⟩ | ⟨_, e⟩⟩ <;> rw [e]
    · exact Nat.le_refl _
    · simp only [sendBlk]; omega
    · exact Nat.le_refl _
    · simp only [sendBlk]; omega
    · exact la
    · exact ov
    · simp only; omega
  · by_cases h1 : s.mode = 1
    · rcases bid_out (c := c) (T := now + 1) (i := i) (h := h) h1 with ⟨_, e⟩ | ⟨_, e⟩ | ⟨_, _, e⟩ | ⟨_, _, _, ⟨_, e⟩ | ⟨_, e⟩⟩ <;> rw [e]
      · simp only [sendBlk]; omega
      · exact la
      · exact an
      · exact ov
      · simp only; omega
    · by_cases h3 : s.mode = 3
      · rcases rcv_out (c := c) (T := now + 1) (i := i) (h := h) h3 with ⟨b, _, e⟩ | ⟨_, e⟩ | ⟨_, e⟩ | ⟨_, e⟩ | ⟨_, e⟩ | ⟨_, _, ⟨_, e⟩ | ⟨_, e⟩⟩ <;> rw [e]
        · unfold takes
          split
          · simp only; omega
          · split <;> (simp only; omega)
        · simp only; omega
        · simp only; omega
        · exact an
        · simp only; omega
        · simp only; omega
        · simp only; omega
      · unfold one named
        rw [if_neg h1, if_neg h2, if_neg h3]
        unfold idle
        by_cases k3 : kindOf h = 3
        · rw [if_pos k3]; exact an
        · rw [if_neg k3]
          simp only
          split
          · exact ov
          · split
            · simp only [bids]; omega
            · simp only; omega

/-- The calm goes on, whatever is heard. -/
theorem calm_keep {c : Cfg} {now : Nat} {s0 s1 : Stn} {p0 p1 : Put} {h0 h1 : Ans} (hc : c.Ok) (h : CalmSt c now s0 s1 p0 p1) (a0 : Hears p0 p1 h0) (a1 : Hears p1 p0 h1) :
    CalmSt c (now + 1) (one c (now + 1) 0 s0 h0).1 (one c (now + 1) 1 s1 h1).1 (one c (now + 1) 0 s0 h0).2.1 (one c (now + 1) 1 s1 h1).2.1 := by
  obtain ⟨x0, d0⟩ := h.d0
  obtain ⟨x1, d1⟩ := h.d1
  obtain ⟨y0, e0⟩ := dir_step hc h.tok.a h.tok.b h.tok.k0 d0 a0 a1
  obtain ⟨y1, e1⟩ := dir_step hc h.tok.b h.tok.a h.tok.k1 d1 a1 a0
  exact ⟨tok_step hc h.tok a0 a1, ⟨y0, e0.dir⟩, ⟨y1, e1.dir⟩, by rw [one_busy]; exact h.b0, by rw [one_busy]; exact h.b1, one_rest h.r0, one_rest h.r1⟩

/-- The number falls. -/
theorem phi_fall {c : Cfg} {now : Nat} {s0 s1 : Stn} {p0 p1 : Put} (hc : c.Ok) (h : CalmSt c now s0 s1 p0 p1) (hl : s0.queue ≠ [] ∨ s1.queue ≠ []) :
    Phi c (now + 1) (one c (now + 1) 0 s0 (hE p0 p1)).1 (one c (now + 1) 1 s1 (hE p1 p0)).1 (one c (now + 1) 0 s0 (hE p0 p1)).2.1 (one c (now + 1) 1 s1 (hE p1 p0)).2.1 + 1 ≤ Phi c now s0 s1 p0 p1 := by
  have hn := calm_keep hc h (hE_hears p0 p1) (hE_hears p1 p0)
  have pl := psi_lt hc hn.tok hn.r0 hn.r1
  obtain ⟨x0, d0⟩ := h.d0
  obtain ⟨x1, d1⟩ := h.d1
  have m0 := rem_le (h := hE p0 p1) h.tok.a (fun hm => (d0.snd hm).1)
  have m1 := rem_le (h := hE p1 p0) h.tok.b (fun hm => (d1.snd hm).1)
  have len : ∀ {i : Nat} {s : Stn} {p : Put} {g : Ans}, StOk c now i s p → (one c (now + 1) i s g).1.queue.length ≤ s.queue.length ∧ (told (one c (now + 1) i s g) → (one c (now + 1) i s g).1.queue.length + 1 ≤ s.queue.length) := by
    intro i s p g hs
    by_cases t : told (one c (now + 1) i s g)
    · obtain ⟨e1, e2, _⟩ := told_queue hs t
      rw [e1]
      have : 1 ≤ s.queue.length := by
        cases hq : s.queue with
        | nil => exact absurd hq e2
        | cons a l => simp
      rw [List.length_tail]
      exact ⟨by omega, fun _ => by omega⟩
    · rw [not_told_queue t]
      exact ⟨Nat.le_refl _, fun h => absurd h t⟩
  have l0 := len (g := hE p0 p1) h.tok.a
  have l1 := len (g := hE p1 p0) h.tok.b
  have sumLe : ∀ {s : Stn}, s.queue ≠ [] → nblk c (mine s) ≤ (s.queue.map (nblk c)).sum := by
    intro s hq
    unfold mine
    cases hqq : s.queue with
    | nil => exact absurd hqq hq
    | cons m l => simp
  have remS : ∀ {s s' : Stn}, s.mode = 2 → s'.mode = 2 → s'.queue = s.queue → s'.block = s.block + 1 → s.block + 1 < nblk c (mine s) → s.queue ≠ [] → rem c s' + 1 ≤ rem c s := by
    intro s s' h1 h2 h3 h4 h5 h6
    have := sumLe h6
    unfold rem
    rw [if_pos h1, if_pos h2, h3, h4]
    omega
  unfold Phi
  by_cases t : told (one c (now + 1) 0 s0 (hE p0 p1)) ∨ told (one c (now + 1) 1 s1 (hE p1 p0))
  · have hle : (one c (now + 1) 0 s0 (hE p0 p1)).1.queue.length + (one c (now + 1) 1 s1 (hE p1 p0)).1.queue.length + 1 ≤ s0.queue.length + s1.queue.length := by
      rcases t with t | t
      · have := l0.2 t; have := l1.1; omega
      · have := l1.2 t; have := l0.1; omega
    have hmul := Nat.mul_le_mul_left (turnT c) hle
    rw [Nat.mul_add, Nat.mul_one] at hmul
    omega
  · have t0 : ¬ told (one c (now + 1) 0 s0 (hE p0 p1)) := fun h => t (Or.inl h)
    have t1 : ¬ told (one c (now + 1) 1 s1 (hE p1 p0)) := fun h => t (Or.inr h)
    rw [not_told_queue t0, not_told_queue t1]
    by_cases s2 : s0.mode = 2
    · have ps := psiS_step hc h.tok.a h.tok.b h.tok.k0 d0 h.b1 (fun a b => (h.tok.t a b).1) s2
      rcases ps with t | ⟨e1, e2, e3⟩
      · exact absurd t t0
      · have epsi : psi c now s0 s1 p0 p1 = psiS c now s0 s1 p0 p1 := by unfold psi; rw [if_pos s2]
        have epsi' : psi c (now + 1) (one c (now + 1) 0 s0 (hE p0 p1)).1 (one c (now + 1) 1 s1 (hE p1 p0)).1 (one c (now + 1) 0 s0 (hE p0 p1)).2.1 (one c (now + 1) 1 s1 (hE p1 p0)).2.1 = psiS c (now + 1) (one c (now + 1) 0 s0 (hE p0 p1)).1 (one c (now + 1) 1 s1 (hE p1 p0)).1 (one c (now + 1) 0 s0 (hE p0 p1)).2.1 (one c (now + 1) 1 s1 (hE p1 p0)).2.1 := by unfold psi; rw [if_pos e1]
        rw [epsi, epsi']
        rcases e3 with ⟨_, e⟩ | ⟨e4, e5, e⟩
        · omega
        · have := remS s2 e1 e2 e4 e5 (h.tok.a.que (Or.inr s2))
          omega
    · by_cases u2 : s1.mode = 2
      · have ps := psiS_step hc h.tok.b h.tok.a h.tok.k1 d1 h.b0 (fun a b => (h.tok.t b a).2) u2
        rcases ps with t | ⟨e1, e2, e3⟩
        · exact absurd t t1
        · have k3 := (hn.tok.k1 e1).1
          have epsi : psi c now s0 s1 p0 p1 = psiS c now s1 s0 p1 p0 := by unfold psi; rw [if_neg s2, if_pos u2]
          have epsi' : psi c (now + 1) (one c (now + 1) 0 s0 (hE p0 p1)).1 (one c (now + 1) 1 s1 (hE p1 p0)).1 (one c (now + 1) 0 s0 (hE p0 p1)).2.1 (one c (now + 1) 1 s1 (hE p1 p0)).2.1 = psiS c (now + 1) (one c (now + 1) 1 s1 (hE p1 p0)).1 (one c (now + 1) 0 s0 (hE p0 p1)).1 (one c (now + 1) 1 s1 (hE p1 p0)).2.1 (one c (now + 1) 0 s0 (hE p0 p1)).2.1 := by unfold psi; rw [if_neg (by omega), if_pos e1]
          rw [epsi, epsi']
          rcases e3 with ⟨_, e⟩ | ⟨e4, e5, e⟩
          · omega
          · have := remS u2 e1 e2 e4 e5 (h.tok.b.que (Or.inr u2))
            omega
      · rcases psi_fall hc h.tok h.b0 h.b1 hl s2 u2 with t | t | e
        · exact absurd t t0
        · exact absurd t t1
        · omega

theorem phi_le {c : Cfg} {now : Nat} {s0 s1 : Stn} {p0 p1 : Put} (hc : c.Ok) (h : CalmSt c now s0 s1 p0 p1) : Phi c now s0 s1 p0 p1 + 1 ≤ turnT c * (s0.queue.length + s1.queue.length + 1) + 2 * (rem c s0 + rem c s1) := by
  have := psi_lt hc h.tok h.r0 h.r1
  have e : turnT c * (s0.queue.length + s1.queue.length + 1) = turnT c * (s0.queue.length + s1.queue.length) + turnT c := by rw [Nat.mul_add, Nat.mul_one]
  unfold Phi
  rw [e]
  omega

theorem chunk_count {α : Type} (n : Nat) (hn : 1 ≤ n) : ∀ f (l : List α), (chunk n f l).length ≤ max 1 l.length
  | 0, l => by simp [chunk]; omega
  | f + 1, l => by
    unfold chunk
    split
    · simp; omega
    · have := chunk_count n hn f (l.drop n)
      simp only [List.length_cons, List.length_drop] at this ⊢
      omega
theorem nblk_le {c : Cfg} (hc : c.Ok) (m : Msg) : nblk c m ≤ m.text.length + 1 := by
  have h1 := chunk_count c.size hc.size.1 m.text.length m.text
  have h2 := chunk_count c.parts hc.parts.1 (pieces c m).length (pieces c m)
  unfold nblk groups
  unfold pieces at h2 ⊢
  omega
end Go.Proofs.YtlbpjcphhocdkabGreatDoor.Mod

namespace Go.Proofs.YtlbpjcphhocdkabGreatDoor.Mod

def up (s : Stn) : Prop := s.mode = 1 ∨ s.mode = 2
instance (s : Stn) : Decidable (up s) := by unfold up; infer_instance
/-- Is an attempt that goes on one that began in the calm? -/
def ynew (y : Bool) (s s' : Stn) : Bool := if up s' then (if up s then y else true) else true

/-- A sender whose attempt began in the calm. -/
def YS (s : Stn) (p q : Put) : Prop := s.tries = 1 ∧ ((∃ b, p = .blk b) ∨ (p = .nil ∧ q = .short (yesN (s.block + 1))))
/-- Station 0, bidding. -/
def YB0 (s0 s1 : Stn) (p0 p1 : Put) : Prop :=
  s0.free = false ∧ ((p0 = .short 3 ∧ p1 = .nil) ∨ (p0 = .nil ∧ p1 = .short 7) ∨ (p0 = .short 3 ∧ p1 = .short 3 ∧ s0.tries = 1) ∨ (p0 = .nil ∧ p1 = .nil ∧ s1.mode = 1 ∧ s0.due < s1.due ∧ s0.tries = 1))
/-- Station 1, bidding. -/
def YB1 (s0 s1 : Stn) (p0 p1 : Put) (y0 : Bool) : Prop :=
  s1.free = false ∧ ((p1 = .short 3 ∧ p0 = .nil ∧ (s0.mode = 0 ∨ s0.mode = 3)) ∨ (p1 = .nil ∧ p0 = .short 7) ∨ (p0 = .short 3 ∧ p1 = .nil)
    ∨ (s0.mode = 1 ∧ s0.due < s1.due ∧ (s1.tries = 1 ∨ y0 = true)) ∨ ((s0.mode = 0 ∨ s0.mode = 3) ∧ p1 = .nil ∧ s1.tries = 1))

structure Yng (s0 s1 : Stn) (p0 p1 : Put) (y0 y1 : Bool) : Prop where
  n9 : p0 ≠ .short 9 ∧ p1 ≠ .short 9
  s0' : y0 = true → s0.mode = 2 → YS s0 p0 p1
  s1' : y1 = true → s1.mode = 2 → YS s1 p1 p0
  b0 : y0 = true → s0.mode = 1 → YB0 s0 s1 p0 p1
  b1 : y1 = true → s1.mode = 1 → YB1 s0 s1 p0 p1 y0

/-- A message fails. -/
def fails (d : Did) : Prop := ∃ e, d.2.2 = some e ∧ e.kind = 3

theorem not_fails_plain {s : Stn} {p : Put} : ¬ fails (s, p, none) := by rintro ⟨e, h, _⟩; cases h

/-- Nobody who is not busy puts anybody off. -/
theorem no_nine {c : Cfg} {T i : Nat} {s : Stn} {h : Ans} (hb : s.busy = false) : (one c T i s h).2.1 ≠ .short 9 := by
  have an : (answers c T s).2.1 ≠ .short 9 := by unfold answers; rw [hb]; simp
  have en : ∀ (s' : Stn) k, (ends T i s' k).2.1 ≠ .short 9 := by intro s' k; unfold ends; simp only; split <;> simp
  have la : (later c T i s).2.1 ≠ .short 9 := by
    unfold later
    split
    · exact en _ _
    · simp
  have ov : (over c T i s).2.1 ≠ .short 9 := by
    unfold over
    split
    · simp
    · split
      · exact en _ _
      · simp only; split <;> simp
  have te : ∀ s' : Stn, s'.busy = false → tells s' ≠ .short 9 := by
    intro s' hb'
    unfold tells
    rw [hb']
    have := yes_or s'.count
    simp
    omega
  by_cases h2 : s.mode = 2
  · rcases snd_out (c := c) (T := T) (i := i) (h := h) h2 with ⟨_, _, e⟩ | ⟨_, _, e⟩ | ⟨_, _, e | e⟩ | ⟨_, e⟩ | ⟨_, ⟨_, e⟩ | ⟨_, e⟩⟩ <;> rw [e]
    · exact en _ _
    · simp [sendBlk]
    · exact en _ _
    · simp [sendBlk]
    · exact la
    · exact ov
    · simp
  · by_cases h1 : s.mode = 1
    · rcases bid_out (c := c) (T := T) (i := i) (h := h) h1 with ⟨_, e⟩ | ⟨_, e⟩ | ⟨_, _, e⟩ | ⟨_, _, _, ⟨_, e⟩ | ⟨_, e⟩⟩ <;> rw [e]
      · simp [sendBlk]
      · exact la
      · exact an
      · exact ov
      · simp
    · by_cases h3 : s.mode = 3
      · rcases rcv_out (c := c) (T := T) (i := i) (h := h) h3 with ⟨b, _, e⟩ | ⟨_, e⟩ | ⟨_, e⟩ | ⟨_, e⟩ | ⟨_, e⟩ | ⟨_, _, ⟨_, e⟩ | ⟨_, e⟩⟩ <;> rw [e]
        · unfold takes
          split
          · simp
          · split
            · exact te _ hb
            · exact te _ hb
        · simp
        · exact te _ hb
        · exact an
        · simp
        · simp
        · simp
      · unfold one named
        rw [if_neg h1, if_neg h2, if_neg h3]
        unfold idle
        by_cases k3 : kindOf h = 3
        · rw [if_pos k3]; exact an
        · rw [if_neg k3]
          simp only
          split
          · exact ov
          · split
            · simp [bids]
            · simp

/-- A sender whose attempt began in the calm: it goes on so, or its message is Sent. -/
theorem ys_step {c : Cfg} {now i j : Nat} {s t : Stn} {p q : Put} {here : Bool} (hc : c.Ok) (hs : StOk c now i s p) (hk : Kept c s t) (hd : Dir c s t p q here) (hb : t.busy = false) (hone : p ≠ .nil → q ≠ .nil → p = .short 3) (hm : s.mode = 2) (hy : YS s p q) :
    ¬ fails (one c (now + 1) i s (hE p q)) ∧ ((one c (now + 1) i s (hE p q)).1.mode = 2 → YS (one c (now + 1) i s (hE p q)).1 (one c (now + 1) i s (hE p q)).2.1 (one c (now + 1) j t (hE q p)).2.1) := by
  obtain ⟨m3, hgu⟩ := hk hm
  obtain ⟨hn, hu⟩ := hd.snd hm
  have hq0 := hs.que (Or.inr hm)
  have hmm := hd.msgs _ (mine_mem hq0)
  have y := yes_or (s.block + 1)
  obtain ⟨ht1, ⟨b, hp⟩ | ⟨hp, hq⟩⟩ := hy
  · subst hp
    have hqn : q = .nil := by
      by_cases hq : q = .nil
      · exact hq
      · exact absurd (hone (by simp) hq) (by simp)
    subst hqn
    rw [snd_rest hc hs hm (by simp) (hE_hears _ _)]
    refine ⟨not_fails_plain, fun _ => ⟨ht1, Or.inr ⟨rfl, ?_⟩⟩⟩
    rw [hE_nil]
    rcases hu with ⟨u1, u2, _, u4, _⟩ | ⟨_, _, _, u4, _⟩
    · have hbe := u4 b rfl
      have et : one c (now + 1) j t (exact' (.blk b)) = takes c (now + 1) j t (blkAt c (mine s) s.block) := by
        unfold one named
        rw [if_neg (by omega), if_neg (by omega), if_pos m3, ← hbe]
        rfl
      rw [et, takes_good hmm u2 hn]
      have etl : tells { t with count := t.count + 1 } = .short (yesN (s.block + 1)) := by unfold tells; simp only [hb]; rw [u1]; rfl
      split
      · exact etl
      · exact etl
    · exact absurd rfl (u4 b)
  · subst hp
    rw [hE_nil, hq]
    rcases snd_out (c := c) (T := now + 1) (i := i) (h := exact' (.short (yesN (s.block + 1)))) hm with ⟨_, _, e⟩ | ⟨_, _, e⟩ | ⟨k, _⟩ | ⟨k, _⟩ | ⟨k, _⟩
    · rw [e]
      refine ⟨?_, fun h => by simp [ends] at h⟩
      rintro ⟨e', he, hk'⟩
      simp only [ends, Option.some.injEq] at he
      subst he
      simp at hk'
    · rw [e]
      exact ⟨not_fails_plain, fun _ => ⟨rfl, Or.inl ⟨_, rfl⟩⟩⟩
    · exact absurd rfl k
    · have : yesN (s.block + 1) = 9 := k
      omega
    · exact absurd (show yesN (s.block + 1) = 6 ∨ yesN (s.block + 1) = 7 ∨ yesN (s.block + 1) = 8 ∨ yesN (s.block + 1) = 9 by omega) k
end Go.Proofs.YtlbpjcphhocdkabGreatDoor.Mod

namespace Go.Proofs.YtlbpjcphhocdkabGreatDoor.Mod

theorem ynew_on {y : Bool} {s s' : Stn} (h' : up s') (h : up s) : ynew y s s' = y := by unfold ynew; rw [if_pos h', if_pos h]
theorem ynew_began {y : Bool} {s s' : Stn} (h : ¬ up s) : ynew y s s' = true := by unfold ynew; rw [if_neg h]; split <;> rfl

/-- A first bid is followed by another, at least. -/
theorem over_bid {c : Cfg} {T i : Nat} {s : Stn} (hc : c.Ok) (hm : s.mode = 1) (hf : s.free = false) (ht : s.tries = 1) : over c T i s = ({ s with tries := 2, free := false, due := T + patience c i 1 }, .short 3, none) := by
  have := hc.tries
  unfold over
  rw [if_neg (by omega), if_neg (by omega), hf, ht, hm]
  rfl

theorem first_blk {c : Cfg} {T i : Nat} {s : Stn} {h : Ans} (hm : s.mode = 1) (h7 : kindOf h = 7) : one c T i s h = sendBlk c T { s with mode := 2, block := 0, tries := 1, off := 0, free := false } := by
  unfold one named
  rw [if_pos hm]
  unfold bidding
  rw [if_pos h7]

theorem yb0_step {c : Cfg} {now : Nat} {s0 s1 : Stn} {p0 p1 : Put} (hc : c.Ok) (h : CalmSt c now s0 s1 p0 p1) (hm : s0.mode = 1) (hy : YB0 s0 s1 p0 p1) :
    ¬ fails (one c (now + 1) 0 s0 (hE p0 p1)) ∧
    ((one c (now + 1) 0 s0 (hE p0 p1)).1.mode = 1 → YB0 (one c (now + 1) 0 s0 (hE p0 p1)).1 (one c (now + 1) 1 s1 (hE p1 p0)).1 (one c (now + 1) 0 s0 (hE p0 p1)).2.1 (one c (now + 1) 1 s1 (hE p1 p0)).2.1) ∧
    ((one c (now + 1) 0 s0 (hE p0 p1)).1.mode = 2 → (one c (now + 1) 0 s0 (hE p0 p1)).1.tries = 1 ∧ ∃ b, (one c (now + 1) 0 s0 (hE p0 p1)).2.1 = .blk b) := by
  have f := hc.first
  have sc := hc.second
  have e0 : patience c 0 1 = c.first := rfl
  have e1 : patience c 1 1 = c.second := rfl
  have d0 := h.tok.a.bid hm
  have n1 : s1.mode ≠ 2 := fun e => by have := (h.tok.k1 e).1; omega
  obtain ⟨hf, ⟨rfl, rfl⟩ | ⟨rfl, rfl⟩ | ⟨rfl, rfl, ht⟩ | ⟨rfl, rfl, m1, hd, ht⟩⟩ := hy
  · have q : s0.due = now + c.first := by
      rcases (put_of h.tok.a).1 hm with r | r
      · cases r
      · exact r.2
    rw [hE_of_nil, one_still (c := c) (i := 0) (Or.inl hm) (show now + 1 ≠ s0.due by omega)]
    have b := hears_bid (c := c) (T := now + 1) (i := 1) h.b1 (by have := h.tok.b.mode; omega)
    refine ⟨not_fails_plain, fun _ => ⟨hf, Or.inr (Or.inl ⟨rfl, ?_⟩)⟩, fun e => ?_⟩
    · rw [hE_nil]; exact b.2.1
    · simp only at e; omega
  · rw [hE_nil, first_blk hm (show kindOf (exact' (.short 7)) = 7 from rfl)]
    exact ⟨not_fails_plain, (fun e => by simp [sendBlk] at e), fun _ => ⟨rfl, _, rfl⟩⟩
  · have m1 : s1.mode = 1 := by
      rcases h.tok.b.put with r | r | r | r | r | r | r | ⟨b, r, _⟩
      · cases r
      · exact r.2.1
      · have := r.1; simp at this
      · have := r.1; simp at this
      · rcases r.1 with r | r | r <;> simp at r
      · have := r.1; simp at this
      · have := r.1; simp at this
      · cases r
    have q0 : s0.due = now + c.first := by
      rcases (put_of h.tok.a).1 hm with r | r
      · cases r
      · exact r.2
    have q1 : s1.due = now + c.second := by
      rcases (put_of h.tok.b).1 m1 with r | r
      · cases r
      · exact r.2
    rw [hE_own (by simp), one_still (c := c) (i := 0) (Or.inl hm) (show now + 1 ≠ s0.due by omega), one_still (c := c) (i := 1) (Or.inl m1) (show now + 1 ≠ s1.due by omega)]
    refine ⟨not_fails_plain, fun _ => ⟨hf, Or.inr (Or.inr (Or.inr ⟨rfl, rfl, m1, by show s0.due < s1.due; omega, ht⟩))⟩, fun e => ?_⟩
    simp only at e; omega
  · have d1 := h.tok.b.bid m1
    rw [hE_nil, show exact' .nil = Ans.none 0 from rfl, one_still (c := c) (i := 1) (Or.inl m1) (show now + 1 ≠ s1.due by omega)]
    rcases bid_out (c := c) (T := now + 1) (i := 0) (h := .none 0) hm with ⟨k, _⟩ | ⟨k, _⟩ | ⟨k, _⟩ | ⟨_, _, _, ⟨hx, e⟩ | ⟨hx, e⟩⟩
    · exact absurd k (by decide)
    · exact absurd k (by decide)
    · exact absurd k (by decide)
    · rw [e, over_bid hc hm hf ht]
      exact ⟨not_fails_plain, fun _ => ⟨rfl, Or.inl ⟨rfl, rfl⟩⟩, fun e => by simp only at e; omega⟩
    · rw [e]
      exact ⟨not_fails_plain, fun _ => ⟨hf, Or.inr (Or.inr (Or.inr ⟨rfl, rfl, m1, hd, ht⟩))⟩, fun e => by simp only at e; omega⟩

theorem rest_no_fail {c : Cfg} {T i : Nat} {s : Stn} {h : Ans} (hm : s.mode = 0 ∨ s.mode = 3) : ¬ fails (one c T i s h) := by
  rintro ⟨e, he, hk⟩
  rcases ev_cases (c := c) (T := T) (i := i) (s := s) (h := h) with ⟨x, _⟩ | ⟨_, x, _⟩ | ⟨k, _, _, hmm, _⟩
  · rw [x] at he; cases he
  · rw [x] at he; simp at he; rw [← he] at hk; simp at hk
  · omega

theorem yb1_step {c : Cfg} {now : Nat} {s0 s1 : Stn} {p0 p1 : Put} {y0 y1 : Bool} (hc : c.Ok) (h : CalmSt c now s0 s1 p0 p1) (g : Yng s0 s1 p0 p1 y0 y1) (hm : s1.mode = 1) (hy : YB1 s0 s1 p0 p1 y0) :
    ¬ fails (one c (now + 1) 1 s1 (hE p1 p0)) ∧
    ((one c (now + 1) 1 s1 (hE p1 p0)).1.mode = 1 → YB1 (one c (now + 1) 0 s0 (hE p0 p1)).1 (one c (now + 1) 1 s1 (hE p1 p0)).1 (one c (now + 1) 0 s0 (hE p0 p1)).2.1 (one c (now + 1) 1 s1 (hE p1 p0)).2.1 (ynew y0 s0 (one c (now + 1) 0 s0 (hE p0 p1)).1)) ∧
    ((one c (now + 1) 1 s1 (hE p1 p0)).1.mode = 2 → (one c (now + 1) 1 s1 (hE p1 p0)).1.tries = 1 ∧ ∃ b, (one c (now + 1) 1 s1 (hE p1 p0)).2.1 = .blk b) := by
  have f := hc.first
  have sc := hc.second
  have e0 : patience c 0 1 = c.first := rfl
  have e1 : patience c 1 1 = c.second := rfl
  have d1 := h.tok.b.bid hm
  have n0 : s0.mode ≠ 2 := fun e => by have := (h.tok.k0 e).1; omega
  obtain ⟨hf, hcase⟩ := hy
  by_cases hX : p0 = .short 3 ∧ p1 = .nil
  · obtain ⟨rfl, rfl⟩ := hX
    have b := hears_bid (c := c) (T := now + 1) (i := 1) h.b1 (Or.inr (Or.inr ⟨hm, rfl⟩))
    rw [hE_nil, show exact' (.short 3) = Ans.none 3 from rfl]
    refine ⟨?_, (fun e => by rw [b.1] at e; cases e), (fun e => by rw [b.1] at e; cases e)⟩
    rintro ⟨e, he, hk⟩
    have ht : told (one c (now + 1) 1 s1 (.none 3)) := ⟨e, he, Or.inr hk⟩
    have := (told_queue h.tok.b ht).2.2
    rw [b.1] at this
    cases this
  · by_cases h7 : p1 = .nil ∧ p0 = .short 7
    · obtain ⟨rfl, rfl⟩ := h7
      rw [hE_nil (.short 7), first_blk hm (show kindOf (exact' (.short 7)) = 7 from rfl)]
      exact ⟨not_fails_plain, (fun e => by simp [sendBlk] at e), fun _ => ⟨rfl, _, rfl⟩⟩
    · rcases hcase with ⟨rfl, rfl, m0⟩ | c2 | c3 | ⟨m0, hd, hty⟩ | ⟨m0, rfl, ht⟩
      · have q : s1.due = now + c.second := by
          rcases (put_of h.tok.b).1 hm with r | r
          · cases r
          · exact r.2
        rw [hE_of_nil, one_still (c := c) (i := 1) (Or.inl hm) (show now + 1 ≠ s1.due by omega)]
        have b := hears_bid (c := c) (T := now + 1) (i := 0) h.b0 (by omega)
        refine ⟨not_fails_plain, fun _ => ⟨hf, Or.inr (Or.inl ⟨rfl, ?_⟩)⟩, fun e => by simp only at e; omega⟩
        rw [hE_nil]; exact b.2.1
      · exact absurd c2 h7
      · exact absurd c3 hX
      · -- station 0 bids, too, and earlier
        have dd := h.tok.a.bid m0
        have q0 := (put_of h.tok.a).1 m0
        have q1 := (put_of h.tok.b).1 hm
        have k1 : hE p1 p0 = .none 0 := by
          rcases q1 with rfl | ⟨rfl, _⟩
          · rcases q0 with rfl | ⟨rfl, _⟩
            · rfl
            · exact absurd ⟨rfl, rfl⟩ hX
          · exact hE_own (by simp)
        rw [k1, one_still (c := c) (i := 1) (Or.inl hm) (show now + 1 ≠ s1.due by omega)]
        refine ⟨not_fails_plain, fun _ => ⟨hf, ?_⟩, fun e => by simp only at e; omega⟩
        have k0 : kindOf (hE p0 p1) = 0 ∨ kindOf (hE p0 p1) = 3 := by
          rcases q0 with rfl | ⟨rfl, _⟩
          · rw [hE_nil]
            rcases q1 with rfl | ⟨rfl, _⟩
            · exact Or.inl rfl
            · exact Or.inr rfl
          · rw [hE_own (by simp)]; exact Or.inl rfl
        rcases bid_out (c := c) (T := now + 1) (i := 0) (h := hE p0 p1) m0 with ⟨k, _⟩ | ⟨k, _⟩ | ⟨_, k, _⟩ | ⟨_, _, _, ⟨hx, e⟩ | ⟨hx, e⟩⟩
        · omega
        · omega
        · cases k
        · by_cases hov : s0.free = false ∧ s0.tries > c.tries
          · -- its message fails: it was an old one
            have hyf : y0 ≠ true := by
              intro hy0
              have := (yb0_step hc h m0 (g.b0 hy0 m0)).1
              apply this
              rw [e]
              unfold over
              rw [if_neg (by omega), if_pos hov]
              exact ⟨_, rfl, rfl⟩
            have ht1 : s1.tries = 1 := by
              rcases hty with r | r
              · exact r
              · exact absurd r hyf
            right; right; right; right
            rw [e]
            unfold over
            rw [if_neg (by omega), if_pos hov]
            exact ⟨Or.inl rfl, rfl, ht1⟩
          · right; right; left
            rw [e]
            unfold over
            rw [if_neg (by omega), if_neg hov]
            exact ⟨by simp [m0], rfl⟩
        · right; right; right; left
          rw [e]
          refine ⟨m0, hd, ?_⟩
          rcases hty with r | r
          · exact Or.inl r
          · right
            exact (ynew_on (Or.inl m0) (Or.inl m0)).trans r
      · -- it waits to bid again
        have q0 := (put_of h.tok.a).2 m0
        rw [hE_nil, hE_of_nil]
        have kk : kindOf (exact' p0) ≠ 7 ∧ kindOf (exact' p0) ≠ 9 ∧ kindOf (exact' p0) ≠ 3 := by
          rcases q0 with rfl | ⟨k, rfl, hk⟩
          · decide
          · show k ≠ 7 ∧ k ≠ 9 ∧ k ≠ 3
            refine ⟨fun e => h7 ⟨rfl, by rw [e]⟩, fun e => g.n9.1 (by rw [e]), by omega⟩
        obtain ⟨_, r⟩ := restU (c := c) (h := .none 0) h.tok.a m0 (Or.inl rfl)
        rw [e0] at r
        rcases bid_out (c := c) (T := now + 1) (i := 1) (h := exact' p0) hm with ⟨k, _⟩ | ⟨k, _⟩ | ⟨k, _⟩ | ⟨_, _, _, ⟨hx, e⟩ | ⟨hx, e⟩⟩
        · exact absurd k kk.1
        · exact absurd k kk.2.1
        · exact absurd k kk.2.2
        · rw [e, over_bid hc hm hf ht, e1]
          refine ⟨not_fails_plain, fun _ => ⟨rfl, ?_⟩, fun e => by simp only at e; omega⟩
          rcases r with ⟨r1, r2, r3, r4, _⟩ | ⟨r1, r2, _⟩
          · right; right; right; left
            refine ⟨r1, by rw [r2]; show _ < now + 1 + c.second; omega, Or.inr ?_⟩
            exact ynew_began (by unfold up; omega)
          · left; exact ⟨rfl, r2, r1⟩
        · rw [e]
          refine ⟨not_fails_plain, fun _ => ⟨hf, ?_⟩, fun e => by simp only at e; omega⟩
          rcases r with ⟨r1, r2, r3, r4, _⟩ | ⟨r1, r2, _⟩
          · right; right; left; exact ⟨r3, rfl⟩
          · right; right; right; right; exact ⟨r1, rfl, ht⟩

/-- What began in the calm does not fail. -/
theorem yng_step {c : Cfg} {now : Nat} {s0 s1 : Stn} {p0 p1 : Put} {y0 y1 : Bool} (hc : c.Ok) (h : CalmSt c now s0 s1 p0 p1) (g : Yng s0 s1 p0 p1 y0 y1) :
    (y0 = true → ¬ fails (one c (now + 1) 0 s0 (hE p0 p1))) ∧ (y1 = true → ¬ fails (one c (now + 1) 1 s1 (hE p1 p0))) ∧
    Yng (one c (now + 1) 0 s0 (hE p0 p1)).1 (one c (now + 1) 1 s1 (hE p1 p0)).1 (one c (now + 1) 0 s0 (hE p0 p1)).2.1 (one c (now + 1) 1 s1 (hE p1 p0)).2.1 (ynew y0 s0 (one c (now + 1) 0 s0 (hE p0 p1)).1) (ynew y1 s1 (one c (now + 1) 1 s1 (hE p1 p0)).1) := by
  have f := hc.first
  have sc := hc.second
  have e0 : patience c 0 1 = c.first := rfl
  have e1 : patience c 1 1 = c.second := rfl
  obtain ⟨x0, d0⟩ := h.d0
  obtain ⟨x1, d1⟩ := h.d1
  have hn := calm_keep hc h (hE_hears p0 p1) (hE_hears p1 p0)
  have z0 := h.tok.a.mode
  have z1 := h.tok.b.mode
  have yt : ∀ {y : Bool} {s s' : Stn}, ynew y s s' = true → up s' → up s → y = true := by
    intro y s s' hy h1 h2
    unfold ynew at hy
    rw [if_pos h1, if_pos h2] at hy
    exact hy
  have back : ∀ {i : Nat} {s : Stn} {p : Put} {a : Ans}, StOk c now i s p → (one c (now + 1) i s a).1.mode = 2 → up s := by
    intro i s p a hs hm
    rcases snd_cases hs hm with ⟨m, _⟩ | ⟨m, _⟩ | ⟨m, _⟩
    · exact Or.inl m
    · exact Or.inr m
    · exact Or.inr m
  have bidE : ∀ {i : Nat} {s : Stn} {p q : Put}, StOk c now i s p → ¬ up s → (one c (now + 1) i s (hE p q)).1.mode = 1 → one c (now + 1) i s (hE p q) = bids c (now + 1) i s := by
    intro i s p q hs hu hm
    have z := hs.mode
    have m03 : s.mode = 0 ∨ s.mode = 3 := by unfold up at hu; omega
    rcases m03 with m | m
    · rcases idle_out (c := c) (T := now + 1) (i := i) (h := hE p q) m with ⟨_, e⟩ | ⟨_, _, _, e⟩ | ⟨_, _, e⟩
      · rw [e] at hm
        unfold answers at hm
        split at hm <;> simp at hm
      · exact e
      · rw [e] at hm; simp only at hm; omega
    · exfalso
      rcases rcv_out (c := c) (T := now + 1) (i := i) (h := hE p q) m with ⟨b, _, e⟩ | ⟨_, e⟩ | ⟨_, e⟩ | ⟨_, e⟩ | ⟨_, e⟩ | ⟨_, _, ⟨_, e⟩ | ⟨_, e⟩⟩ <;> rw [e] at hm
      · unfold takes at hm
        split at hm
        · simp only at hm; omega
        · split at hm <;> (simp only at hm; omega)
      · simp only at hm; omega
      · simp only at hm; omega
      · unfold answers at hm
        split at hm <;> simp at hm
      · simp at hm
      · simp at hm
      · simp only at hm; omega
  have from2 : ∀ {i : Nat} {s : Stn} {a : Ans}, s.mode = 2 → (one c (now + 1) i s a).1.mode ≠ 1 := by
    intro i s a m hm
    by_cases ht : told (one c (now + 1) i s a)
    · obtain ⟨e, he, _⟩ := ht
      rcases ev_cases (c := c) (T := now + 1) (i := i) (s := s) (h := a) with ⟨x, _⟩ | ⟨_, _, x, _⟩ | ⟨_, _, _, _, _, _, _, x⟩
      · rw [x] at he; cases he
      · omega
      · omega
    · have := (snd_block m ht).1
      omega
  have noF : ∀ {i : Nat} {s : Stn} {a : Ans}, s.mode ≤ 3 → ¬ up s → ¬ fails (one c (now + 1) i s a) := by
    intro i s a hz hu
    exact rest_no_fail (by unfold up at hu; omega)
  refine ⟨fun hy => ?_, fun hy => ?_, ⟨⟨no_nine h.b0, no_nine h.b1⟩, fun hy hm => ?_, fun hy hm => ?_, fun hy hm => ?_, fun hy hm => ?_⟩⟩
  · by_cases hu : up s0
    · rcases hu with m | m
      · exact (yb0_step hc h m (g.b0 hy m)).1
      · exact (ys_step (j := 1) hc h.tok.a h.tok.k0 d0 h.b1 (fun a b => (h.tok.t a b).1) m (g.s0' hy m)).1
    · exact noF z0 hu
  · by_cases hu : up s1
    · rcases hu with m | m
      · exact (yb1_step hc h g m (g.b1 hy m)).1
      · exact (ys_step (j := 0) hc h.tok.b h.tok.k1 d1 h.b0 (fun a b => (h.tok.t b a).2) m (g.s1' hy m)).1
    · exact noF z1 hu
  · have hu := back h.tok.a hm
    have hy' := yt hy (Or.inr hm) hu
    rcases hu with m | m
    · have := (yb0_step hc h m (g.b0 hy' m)).2.2 hm
      exact ⟨this.1, Or.inl this.2⟩
    · exact (ys_step hc h.tok.a h.tok.k0 d0 h.b1 (fun a b => (h.tok.t a b).1) m (g.s0' hy' m)).2 hm
  · have hu := back h.tok.b hm
    have hy' := yt hy (Or.inr hm) hu
    rcases hu with m | m
    · have := (yb1_step hc h g m (g.b1 hy' m)).2.2 hm
      exact ⟨this.1, Or.inl this.2⟩
    · exact (ys_step hc h.tok.b h.tok.k1 d1 h.b0 (fun a b => (h.tok.t b a).2) m (g.s1' hy' m)).2 hm
  · by_cases hu : up s0
    · have hy' := yt hy (Or.inl hm) hu
      rcases hu with m | m
      · exact (yb0_step hc h m (g.b0 hy' m)).2.1 hm
      · exact absurd hm (from2 m)
    · have e := bidE h.tok.a hu hm
      have hp : (one c (now + 1) 0 s0 (hE p0 p1)).2.1 = .short 3 := by rw [e]; rfl
      refine ⟨by rw [e]; rfl, ?_⟩
      by_cases hp1 : (one c (now + 1) 1 s1 (hE p1 p0)).2.1 = .nil
      · exact Or.inl ⟨hp, hp1⟩
      · have := hn.tok.t (by rw [hp]; simp) hp1
        exact Or.inr (Or.inr (Or.inl ⟨hp, this.2, by rw [e]; rfl⟩))
  · by_cases hu : up s1
    · have hy' := yt hy (Or.inl hm) hu
      rcases hu with m | m
      · exact (yb1_step hc h g m (g.b1 hy' m)).2.1 hm
      · exact absurd hm (from2 m)
    · have e := bidE h.tok.b hu hm
      have hp : (one c (now + 1) 1 s1 (hE p1 p0)).2.1 = .short 3 := by rw [e]; rfl
      refine ⟨by rw [e]; rfl, ?_⟩
      have w := hn.tok.a.mode
      by_cases m1 : (one c (now + 1) 0 s0 (hE p0 p1)).1.mode = 1
      · right; right; right; left
        have dd := hn.tok.a.bid m1
        rw [e0] at dd
        refine ⟨m1, ?_, Or.inl (by rw [e]; rfl)⟩
        have : (one c (now + 1) 1 s1 (hE p1 p0)).1.due = now + 1 + c.second := by rw [e]; rfl
        omega
      · have m2 : (one c (now + 1) 0 s0 (hE p0 p1)).1.mode ≠ 2 := fun e2 => by have := (hn.tok.k0 e2).1; omega
        left
        refine ⟨hp, ?_, by omega⟩
        by_cases hp0 : (one c (now + 1) 0 s0 (hE p0 p1)).2.1 = .nil
        · exact hp0
        · exfalso
          have := (hn.tok.t hp0 (by rw [hp]; simp)).1
          rcases (put_of hn.tok.a).2 (by omega) with r | ⟨k, r, hk⟩
          · exact hp0 r
          · rw [this] at r; simp at r; omega
end Go.Proofs.YtlbpjcphhocdkabGreatDoor.Mod

namespace Go.Proofs.YtlbpjcphhocdkabGreatDoor.Mod
open Bur

/-- A block that may be sent. -/
def BkOk (b : Bk) : Prop := Blk.berr b.head b.parts b.clear = 0
/-- A transmission that can be put. -/
def PutOk : Put → Prop
  | .nil => True
  | .short k => 3 ≤ k ∧ k ≤ 9
  | .blk b => BkOk b

theorem check_int {c : Cfg} (hc : c.Ok) : ((c.check : Int) = 0 ∨ (c.check : Int) = 1) := by have := hc.check; omega
theorem enc_ok {c : Cfg} (hc : c.Ok) {b : Bk} (hb : BkOk b) : Blk.encE b.head b.parts b.clear c.check = 0 := by
  unfold Blk.encE
  rw [if_pos (check_int hc)]
  exact hb

theorem hear_nil (c : Cfg) : hear c [] = .none 0 := by
  refine hear_is (Or.inr ⟨rfl, Or.inr ⟨rfl, fun m _ _ e => ?_⟩⟩)
  have := congrArg List.length e
  simp [Prs.restL] at this
theorem hear_short (c : Cfg) {k : Nat} (h1 : 3 ≤ k) (h2 : k ≤ 9) : hear c (txOf c (.short k)) = .none k := short_reads h1 h2 rfl (hear_reads c _)
theorem hear_blk {c : Cfg} (hc : c.Ok) {b : Bk} (hb : BkOk b) : hear c (txOf c (.blk b)) = .data b.head b.parts b.clear b.last := by
  refine reads_data (hear_reads c _) ?_
  have g := encE_good b.last [255] (enc_ok hc hb)
  have e : txOf c (.blk b) = List.replicate 0 22 ++ (22 :: 22 :: (Blk.body b.head b.parts b.clear b.last c.check ++ [255])) := by simp [txOf]
  rw [e, restL_syns 0 _ (good_begins g).2]
  exact g
theorem hear_exact {c : Cfg} (hc : c.Ok) {p : Put} (hp : PutOk p) : hear c (txOf c p) = exact' p := by
  cases p with
  | nil => exact hear_nil c
  | short k => exact hear_short c hp.1 hp.2
  | blk b => exact hear_blk hc hp

theorem hear_cut {c : Cfg} (hc : c.Ok) {p : Put} (hp : PutOk p) (j : Nat) : May p (hear c ((txOf c p).take j)) := by
  by_cases hj : j < (txOf c p).length
  · cases p with
    | nil => simp [txOf] at hj
    | short k =>
      right
      refine short_cut hp.1 hp.2 rfl ?_ (hear_reads c _)
      simp only [txOf, List.length_append, List.length_cons, List.length_nil] at hj
      omega
    | blk b =>
      right
      obtain ⟨n, e, hn⟩ := block_cut (enc_ok hc hp) rfl (by simp only [txOf, List.length_append, List.length_cons, List.length_nil] at hj; omega) (hear_reads c ((txOf c (.blk b)).take j))
      rw [e]
      rcases hn with rfl | rfl
      · exact Or.inl rfl
      · exact Or.inr rfl
  · rw [List.take_of_length_le (by omega), hear_exact hc hp]
    cases p with
    | nil => rfl
    | short k => exact Or.inl rfl
    | blk b => exact Or.inl rfl

theorem hear_turn {c : Cfg} (hc : c.Ok) {b : Bk} (hb : BkOk b) (k : Nat) (h3 : 3 ≤ k) (hk : k < (txOf c (.blk b)).length) (x : UInt8) (hx : x ≠ (txOf c (.blk b))[k]) : May (.blk b) (hear c ((txOf c (.blk b)).set k x)) := by
  have hE := enc_ok hc hb
  have g := encE_good b.last [255] hE
  have g22 := (good_begins g).2
  have hN := body_len b.last hE
  generalize hB : Blk.body b.head b.parts b.clear b.last c.check = B at *
  have el : txOf c (.blk b) = 22 :: 22 :: (B ++ [255]) := by simp [txOf, hB]
  obtain ⟨i, rfl⟩ : ∃ i, k = i + 1 + 1 := ⟨k - 2, by omega⟩
  have hi : i < B.length + 1 := by rw [el] at hk; simp at hk; omega
  have hx' : x ≠ (B ++ [255])[i]'(by simp; omega) := by
    intro e
    apply hx
    rw [e]
    simp only [el]
    rfl
  have es : (txOf c (.blk b)).set (i + 1 + 1) x = 22 :: 22 :: (B ++ [255]).set i x := by rw [el]; rfl
  rw [es]
  have h0 : ((B ++ [255]).set i x).getD 0 0 = (B ++ [255]).getD 0 0 := by
    simp [List.getD, show ¬ i = 0 by omega]
  have hrest : Prs.restL (22 :: 22 :: (B ++ [255]).set i x) = (B ++ [255]).set i x := restL_syns 0 _ (by rw [h0]; exact g22)
  have hr := hear_reads c (22 :: 22 :: (B ++ [255]).set i x)
  right
  cases hA : hear c (22 :: 22 :: (B ++ [255]).set i x) with
  | none n =>
    rw [hA] at hr
    rcases hr with ⟨_, rfl, _⟩ | ⟨_, hs⟩
    · exact Or.inr rfl
    · rcases hs with ⟨h1, h2, h3'⟩ | ⟨h1, _⟩
      · exfalso
        rw [hrest] at h3'
        have q := congrArg List.length h3'
        have f := (sbody_facts n h1 h2).2.2.2
        simp only [List.length_set, List.length_append, List.length_cons, List.length_nil] at q
        omega
      · left; rw [h1]
  | data h' ps' c' t' =>
    exfalso
    rw [hA] at hr
    obtain ⟨_, g'⟩ := hr
    rw [hrest] at g'
    have e := g'.eq
    by_cases hil : i = B.length
    · subst hil
      rw [List.set_append_right _ _ (Nat.le_refl _)] at e
      simp only [Nat.sub_self, List.set_cons_zero] at e
      have := congrArg List.getLast? e
      simp at this
      apply hx'
      simp [this]
    · have hil' : i < B.length := by omega
      rw [List.set_append_left _ _ hil'] at e
      have eB : B.set i x = Blk.body h' ps' c' t' c.check := List.append_cancel_right e
      have hxi : x ≠ B[i] := by
        intro e2
        apply hx'
        rw [e2, List.getElem_append_left hil']
      have hd : ∀ j, dif B (B.set i x) j = true → 8 * i ≤ j ∧ j < 8 * i + 8 := by
        intro j hj
        by_cases hji : j / 8 = i
        · omega
        · exfalso
          unfold dif Crc.bitAt at hj
          have : (B.set i x).getD (j / 8) 0 = B.getD (j / 8) 0 := by simp [List.getD, Ne.symm hji]
          rw [this] at hj
          simp at hj
      have hsome : ∃ j, dif B (B.set i x) j = true := by
        by_cases h : ∃ j, dif B (B.set i x) j = true
        · exact h
        · exfalso
          have e2 := dif_byte B (B.set i x) i (fun j _ _ => by
            cases hdj : dif B (B.set i x) j
            · rfl
            · exact absurd ⟨j, hdj⟩ h)
          simp [List.getD, hil'] at e2
          exact hxi e2.symm
      have hl : B.length = (B.set i x).length := by simp
      subst hB
      rw [eB] at hd hsome hl
      exact no_other (check_int hc) (8 * i) hl (fun j hj => by have := hd j hj; omega) (fun _ => ⟨by omega, fun j hj => (hd j hj).2⟩) hsome
end Go.Proofs.YtlbpjcphhocdkabGreatDoor.Mod

namespace Go.Proofs.YtlbpjcphhocdkabGreatDoor.Pst
open Go.Proofs.YtlbpjcphhocdkabGreatDoor.Mod

/-- What a station puts can be put. -/
theorem one_put {c : Cfg} {now i : Nat} {s : Stn} {q : Put} (hc : c.Ok) (h : Ans) (hs : StOk c now i s q) (hb : StB c now s) : PutOk (one c (now + 1) i s h).2.1 := by
  have hB := one_b h hs hb
  have hblk : ∀ s' : Stn, s'.mode = 2 → s'.queue = s.queue → s'.queue ≠ [] → s'.block < nblk c (s'.queue.headD noMsg) → PutOk (sendBlk c (now + 1) s').2.1 := by
    intro s' _ hq hne hk
    have hm : MsgFit (s'.queue.headD noMsg) := by
      cases hq' : s'.queue with
      | nil => exact absurd hq' hne
      | cons a l => exact hb.fit a (by rw [← hq, hq']; simp)
    exact blk_fit hc hm hk
  have hends : ∀ (s' : Stn) k, PutOk (ends (now + 1) i s' k).2.1 := by
    intro s' k
    simp only [ends]
    split
    · exact ⟨by omega, by omega⟩
    · trivial
  have hans : ∀ s' : Stn, PutOk (answers c (now + 1) s').2.1 := by
    intro s'
    unfold answers
    split <;> exact ⟨by omega, by omega⟩
  have htells : ∀ s' : Stn, PutOk (tells s') := by
    intro s'
    rcases tells_short s' with e | e | e <;> rw [e] <;> exact ⟨by omega, by omega⟩
  have hlat : PutOk (later c (now + 1) i s).2.1 := by
    unfold later
    split
    · exact hends _ _
    · trivial
  have hov : PutOk (over c (now + 1) i s).2.1 := by
    unfold over
    split
    · trivial
    · split
      · exact hends _ _
      · simp only
        split <;> exact ⟨by omega, by omega⟩
  have hq : s.mode = 1 ∨ s.mode = 2 → s.queue ≠ [] := hs.que
  unfold one at hB ⊢
  cases hn : named c (now + 1) i s h with
  | none =>
    simp only
    split
    · exact hov
    · split
      · exact ⟨by omega, by omega⟩
      · trivial
  | some d =>
    rw [hn] at hB
    simp only at hB ⊢
    unfold named at hn
    split at hn
    · rename_i m1
      unfold bidding at hn
      split at hn
      · cases hn
        exact hblk _ rfl rfl (hq (Or.inl m1)) (hB.blk rfl)
      · split at hn
        · cases hn; exact hlat
        · split at hn
          · cases hn; exact hans _
          · cases hn
    · split at hn
      · rename_i m2
        unfold sending at hn
        split at hn
        · split at hn
          · cases hn; exact hends _ _
          · cases hn
            exact hblk _ m2 rfl (hq (Or.inr m2)) (hB.blk m2)
        · split at hn
          · split at hn
            · cases hn; exact hends _ _
            · cases hn
              exact hblk _ m2 rfl (hq (Or.inr m2)) (hB.blk m2)
          · split at hn
            · cases hn; exact hlat
            · cases hn
      · split at hn
        · unfold receiving at hn
          split at hn
          · cases hn
            unfold takes
            split
            · exact ⟨by omega, by omega⟩
            · split
              · exact htells _
              · exact htells _
          · split at hn
            · cases hn; exact ⟨by omega, by omega⟩
            · split at hn
              · cases hn; exact htells _
              · split at hn
                · cases hn; exact hans _
                · split at hn
                  · cases hn; trivial
                  · cases hn
        · unfold idle at hn
          split at hn
          · cases hn; exact hans _
          · cases hn

theorem sbody_le (k : Nat) : (sbody k).length ≤ 2 := by unfold sbody; repeat' (first | split | simp)
theorem put_len {c : Cfg} {p : Put} (h : PutOk p) : (txOf c p).length ≤ 320 := by
  cases p with
  | nil => simp [txOf]
  | short k => have := sbody_le k; simp only [txOf, List.length_append, List.length_cons, List.length_nil]; omega
  | blk b =>
    obtain ⟨h1, _, h3, h4⟩ := Blk.berr_ok h
    have hh : b.head.length ≤ 8 := by
      unfold Blk.headOk at h1
      simp only [Bool.and_eq_true, decide_eq_true_eq] at h1
      exact h1.1
    have hl := Blk.bodyTo_length b.head b.parts b.clear b.last c.check 32 (Blk.parts_le h4) b.parts.length
    have : b.parts.length * (b.head.length + 2 * 32 + 7) ≤ 4 * 79 := Nat.mul_le_mul h3 (by omega)
    simp only [txOf, Blk.body, List.length_append, List.length_cons, List.length_nil]
    omega

/-- A line whose numbers are within bounds. -/
structure LGood (x : Ln) : Prop where
  c : x.c.Ok
  s0 : ∃ q, StOk x.c x.now 0 x.s0 q
  s1 : ∃ q, StOk x.c x.now 1 x.s1 q
  b0 : StB x.c x.now x.s0
  b1 : StB x.c x.now x.s1
  o0 : x.on0.length ≤ 320
  o1 : x.on1.length ≤ 320

theorem newS_ok (c : Cfg) (i : Nat) : StOk c 0 i newS .nil := ⟨by simp [newS], by simp [newS], by simp [newS], by simp [newS], by simp [newS], Or.inl rfl⟩
theorem newS_b (c : Cfg) : StB c 0 newS := ⟨by simp [newS], by simp [newS], by simp [newS], by simp [newS], by simp [newS], by simp [newS], by simp [newS]⟩
theorem LGood.new {c : Cfg} (hc : c.Ok) : LGood (newL c) := ⟨hc, ⟨_, newS_ok c 0⟩, ⟨_, newS_ok c 1⟩, newS_b c, newS_b c, by simp [newL], by simp [newL]⟩
theorem LGood.tick {x : Ln} (h : LGood x) : LGood (tick x) := by
  obtain ⟨q0, h0⟩ := h.s0
  obtain ⟨q1, h1⟩ := h.s1
  exact ⟨h.c, ⟨_, one_ok h.c h0⟩, ⟨_, one_ok h.c h1⟩, one_b _ h0 h.b0, one_b _ h1 h.b1, put_len (one_put h.c _ h0 h.b0), put_len (one_put h.c _ h1 h.b1)⟩

/-- Submit. -/
def subS (s : Stn) (m : Msg) : Stn := { s with queue := s.queue ++ [m], joined := s.joined + 1 }
def stnOf (x : Ln) (st : Int) : Stn := if st = 0 then x.s0 else x.s1
def textOk (m : Msg) : Bool := decide (m.text.length ≤ 200) && (m.clear || !Blk.hasCtl m.text)
def submitE (x : Ln) (st : Int) (m : Msg) : Int :=
  if ¬ (st = 0 ∨ st = 1) then 7 else if Blk.headOk m.head = false then 2 else if textOk m = false then 4 else if x.c.queue ≤ (stnOf x st).queue.length then 8 else 0
def submitN (x : Ln) (st : Int) (m : Msg) : Nat := if submitE x st m = 0 then (stnOf x st).joined + 1 else 0
def submitL (x : Ln) (st : Int) (m : Msg) : Ln :=
  if submitE x st m = 0 then (if st = 0 then { x with s0 := subS x.s0 m } else { x with s1 := subS x.s1 m }) else x
theorem fit_iff (m : Msg) : MsgFit m ↔ Blk.headOk m.head = true ∧ textOk m = true := by
  unfold MsgFit textOk
  simp only [Bool.and_eq_true, Bool.or_eq_true, decide_eq_true_eq, Bool.not_eq_true']
theorem submit_cases {x : Ln} {st : Int} {m : Msg} (h : submitE x st m = 0) : (st = 0 ∨ st = 1) ∧ MsgFit m ∧ (stnOf x st).queue.length < x.c.queue := by
  unfold submitE at h
  split at h
  · simp at h
  · split at h
    · simp at h
    · split at h
      · simp at h
      · split at h
        · simp at h
        · rename_i a b d e
          refine ⟨?_, (fit_iff m).2 ⟨by simpa using b, by simpa using d⟩, by omega⟩
          by_cases k : st = 0 ∨ st = 1
          · exact k
          · exact absurd k a

theorem sub_ok {c : Cfg} {now i : Nat} {s : Stn} {q : Put} (m : Msg) (h : StOk c now i s q) : StOk c now i (subS s m) q :=
  ⟨h.mode, h.bid, h.snd, h.rcv, fun _ => by simp [subS], h.put⟩
theorem head_sub {s : Stn} (m : Msg) (h : s.queue ≠ []) : (subS s m).queue.headD noMsg = s.queue.headD noMsg := by
  cases hq : s.queue with
  | nil => exact absurd hq h
  | cons a l => simp [subS, hq]
theorem sub_b {c : Cfg} {now i : Nat} {s : Stn} {q : Put} {m : Msg} (hc : c.Ok) (ho : StOk c now i s q) (h : StB c now s) (hm : MsgFit m) (hl : s.queue.length < c.queue) : StB c now (subS s m) := by
  have := hc.queue
  refine ⟨by simp [subS]; omega, by have := h.qj; simp [subS]; omega, ?_, h.off, ?_, h.got, h.rest⟩
  · intro a ha
    simp only [subS, List.mem_append, List.mem_singleton] at ha
    rcases ha with ha | rfl
    · exact h.fit a ha
    · exact hm
  · intro m2
    rw [head_sub m (ho.que (Or.inr m2))]
    exact h.blk m2
theorem LGood.submit {x : Ln} (h : LGood x) (st : Int) (m : Msg) : LGood (submitL x st m) := by
  unfold submitL
  split
  · rename_i e
    obtain ⟨h1, h2, h3⟩ := submit_cases e
    obtain ⟨q0, k0⟩ := h.s0
    obtain ⟨q1, k1⟩ := h.s1
    split
    · rename_i z
      unfold stnOf at h3
      rw [if_pos z] at h3
      exact ⟨h.c, ⟨q0, sub_ok m k0⟩, ⟨q1, k1⟩, sub_b h.c k0 h.b0 h2 h3, h.b1, h.o0, h.o1⟩
    · rename_i z
      unfold stnOf at h3
      rw [if_neg z] at h3
      exact ⟨h.c, ⟨q0, k0⟩, ⟨q1, sub_ok m k1⟩, h.b0, sub_b h.c k1 h.b1 h2 h3, h.o0, h.o1⟩
  · exact h

/-- Busy. -/
def busyE (st : Int) : Int := if st = 0 ∨ st = 1 then 0 else 7
def busyL (x : Ln) (st : Int) (on : Bool) : Ln :=
  if st = 0 then { x with s0 := { x.s0 with busy := on } } else if st = 1 then { x with s1 := { x.s1 with busy := on } } else x
theorem busy_ok {c : Cfg} {now i : Nat} {s : Stn} {q : Put} (on : Bool) (h : StOk c now i s q) : StOk c now i { s with busy := on } q := ⟨h.mode, h.bid, h.snd, h.rcv, h.que, h.put⟩
theorem busy_b {c : Cfg} {now : Nat} {s : Stn} (on : Bool) (h : StB c now s) : StB c now { s with busy := on } := ⟨h.qlen, h.qj, h.fit, h.off, h.blk, h.got, h.rest⟩
theorem LGood.busy {x : Ln} (h : LGood x) (st : Int) (on : Bool) : LGood (busyL x st on) := by
  obtain ⟨q0, k0⟩ := h.s0
  obtain ⟨q1, k1⟩ := h.s1
  unfold busyL
  split
  · exact ⟨h.c, ⟨q0, busy_ok on k0⟩, ⟨q1, k1⟩, busy_b on h.b0, h.b1, h.o0, h.o1⟩
  · split
    · exact ⟨h.c, ⟨q0, k0⟩, ⟨q1, busy_ok on k1⟩, h.b0, busy_b on h.b1, h.o0, h.o1⟩
    · exact h

/-- Fault. -/
def faultOf (s : List UInt8) (k p v : Int) : Option (List UInt8) :=
  if k = 0 then some []
  else if k = 1 then (if 0 ≤ p ∧ p ≤ s.length then some (s.take p.toNat) else none)
  else if k = 2 then (if (0 ≤ p ∧ p < s.length) ∧ 1 ≤ v ∧ v ≤ 255 then some (s.set p.toNat (s.getD p.toNat 0 ^^^ UInt8.ofNat v.toNat)) else none)
  else if k = 3 then (if (0 ≤ p ∧ p ≤ s.length) ∧ (0 ≤ v ∧ v ≤ 255) ∧ s.length < 320 then some (s.take p.toNat ++ UInt8.ofNat v.toNat :: s.drop p.toNat) else none)
  else none
def faultE (x : Ln) (k p v : Int) : Int :=
  if x.on0 ≠ [] ∧ x.on1 = [] then (if (faultOf x.on0 k p v).isSome then 0 else 10)
  else if x.on0 = [] ∧ x.on1 ≠ [] then (if (faultOf x.on1 k p v).isSome then 0 else 10)
  else 9
def faultL (x : Ln) (k p v : Int) : Ln :=
  if x.on0 ≠ [] ∧ x.on1 = [] then { x with on0 := (faultOf x.on0 k p v).getD x.on0 }
  else if x.on0 = [] ∧ x.on1 ≠ [] then { x with on1 := (faultOf x.on1 k p v).getD x.on1 }
  else x
theorem fault_len {s l : List UInt8} {k p v : Int} (h : faultOf s k p v = some l) (hs : s.length ≤ 320) : l.length ≤ 320 := by
  unfold faultOf at h
  split at h
  · cases h; simp
  · split at h
    · split at h
      · cases h; simp; omega
      · cases h
    · split at h
      · split at h
        · cases h; simp; omega
        · cases h
      · split at h
        · split at h
          · cases h; simp; omega
          · cases h
        · cases h
theorem LGood.fault {x : Ln} (h : LGood x) (k p v : Int) : LGood (faultL x k p v) := by
  have hl : ∀ s : List UInt8, s.length ≤ 320 → ((faultOf s k p v).getD s).length ≤ 320 := by
    intro s hs
    cases e : faultOf s k p v with
    | none => exact hs
    | some l => exact fault_len e hs
  unfold faultL
  split
  · exact ⟨h.c, h.s0, h.s1, h.b0, h.b1, hl _ h.o0, h.o1⟩
  · split
    · exact ⟨h.c, h.s0, h.s1, h.b0, h.b1, h.o0, hl _ h.o1⟩
    · exact h

end Go.Proofs.YtlbpjcphhocdkabGreatDoor.Pst

namespace Go.Proofs.YtlbpjcphhocdkabGreatDoor.Run
open Go.Proofs.YtlbpjcphhocdkabGreatDoor.Mod Go.Proofs.YtlbpjcphhocdkabGreatDoor.Pst

structure Side where
  want : List Msg
  told : Nat
  here : Bool
  mark : Nat
structure R where
  x : Ln
  a : Side
  b : Side
  hit : Bool
  wild : Bool
  calm : Bool
  ok : Bool
  fits : Bool
  token : Bool
  fresh : Bool

def sideOf (r : R) (st : Int) : Side := if st = 0 then r.a else r.b
def setSide (r : R) (st : Int) (s : Side) : R := if st = 0 then { r with a := s } else { r with b := s }

/-- A message is told of. -/
def toldOk (r : R) (e : Ev) : Prop :=
  e.number = (sideOf r e.station).told + 1 ∧ (sideOf r e.station).told < (sideOf r e.station).want.length ∧ e.msg = noMsg ∧ (e.kind = 2 → (sideOf r e.station).here = true ∨ r.wild = true)
def toldR (r : R) (e : Ev) : R :=
  { setSide r e.station { sideOf r e.station with told := (sideOf r e.station).told + 1, here := false } with
    fresh := if e.kind = 3 ∧ r.calm = true ∧ (sideOf r e.station).told ≠ (sideOf r e.station).mark then false else r.fresh }
/-- An event is as it must be. -/
def evOk (r : R) (e : Ev) : Prop :=
  (e.station = 0 ∨ e.station = 1) ∧
  ((e.kind = 2 ∨ e.kind = 3) ∧ toldOk r e ∨
   e.kind = 1 ∧ e.number = 0 ∧ (r.wild = false → (sideOf r (1 - (e.station : Int))).here = false ∧ (sideOf r (1 - (e.station : Int))).told < (sideOf r (1 - (e.station : Int))).want.length ∧ e.msg = (sideOf r (1 - (e.station : Int))).want.getD (sideOf r (1 - (e.station : Int))).told noMsg))
def evR (r : R) (e : Ev) : R :=
  if e.kind = 1 then (if r.wild then r else setSide r (1 - (e.station : Int)) { sideOf r (1 - (e.station : Int)) with here := true }) else toldR r e
def evsOk : R → List Ev → Prop
  | _, [] => True
  | r, e :: l => evOk r e ∧ evsOk (evR r e) l
def evsR : R → List Ev → R
  | r, [] => r
  | r, e :: l => evsR (evR r e) l

def bidL : List UInt8 := [22, 22, 4, 5, 255]
def yesL : List UInt8 := [22, 22, 16, 48, 255]
/-- One speaks. -/
def tokOk (x : Ln) : Bool :=
  !(decide (x.on0 ≠ [] ∧ x.on1 ≠ []) && decide (x.on0 ≠ bidL ∨ x.on1 ≠ bidL)) && !(decide (x.s0.mode = 2 ∧ x.s1.mode ≠ 3) || decide (x.s1.mode = 2 ∧ x.s0.mode ≠ 3))
/-- The queues are as long as they must be. -/
def fitOk (r : R) : Prop := r.x.s0.queue.length + r.a.told = r.a.want.length ∧ r.x.s1.queue.length + r.b.told = r.b.want.length
noncomputable def tickR (r : R) : R := { evsR r (events r.x) with x := tick r.x, hit := false, token := r.token && tokOk (tick r.x) }

theorem setSide_same (r : R) (st : Int) (s : Side) : (setSide r st s).x = r.x ∧ (setSide r st s).hit = r.hit ∧ (setSide r st s).wild = r.wild ∧ (setSide r st s).calm = r.calm ∧ (setSide r st s).ok = r.ok ∧ (setSide r st s).fits = r.fits ∧ (setSide r st s).token = r.token ∧ (setSide r st s).fresh = r.fresh := by
  unfold setSide
  split <;> exact ⟨rfl, rfl, rfl, rfl, rfl, rfl, rfl, rfl⟩
theorem evR_x (r : R) (e : Ev) : (evR r e).x = r.x := by
  unfold evR
  split
  · split
    · rfl
    · exact (setSide_same _ _ _).1
  · exact (setSide_same _ _ _).1
theorem evsR_x (r : R) (l : List Ev) : (evsR r l).x = r.x := by
  induction l generalizing r with
  | nil => rfl
  | cons e l ih => rw [evsR, ih, evR_x]
theorem evR_flags (r : R) (e : Ev) : (evR r e).hit = r.hit ∧ (evR r e).wild = r.wild ∧ (evR r e).calm = r.calm ∧ (evR r e).ok = r.ok ∧ (evR r e).fits = r.fits ∧ (evR r e).token = r.token := by
  unfold evR
  split
  · split
    · exact ⟨rfl, rfl, rfl, rfl, rfl, rfl⟩
    · obtain ⟨_, a1, a2, a3, a4, a5, a6, _⟩ := setSide_same r (1 - (e.station : Int)) { sideOf r (1 - (e.station : Int)) with here := true }
      exact ⟨a1, a2, a3, a4, a5, a6⟩
  · obtain ⟨_, a1, a2, a3, a4, a5, a6, _⟩ := setSide_same r e.station { sideOf r e.station with told := (sideOf r e.station).told + 1, here := false }
    exact ⟨a1, a2, a3, a4, a5, a6⟩
theorem evsR_flags (r : R) (l : List Ev) : (evsR r l).hit = r.hit ∧ (evsR r l).wild = r.wild ∧ (evsR r l).calm = r.calm ∧ (evsR r l).ok = r.ok ∧ (evsR r l).fits = r.fits ∧ (evsR r l).token = r.token := by
  induction l generalizing r with
  | nil => exact ⟨rfl, rfl, rfl, rfl, rfl, rfl⟩
  | cons e l ih =>
    obtain ⟨a1, a2, a3, a4, a5, a6⟩ := ih (evR r e)
    obtain ⟨b1, b2, b3, b4, b5, b6⟩ := evR_flags r e
    exact ⟨a1.trans b1, a2.trans b2, a3.trans b3, a4.trans b4, a5.trans b5, a6.trans b6⟩

end Go.Proofs.YtlbpjcphhocdkabGreatDoor.Run
