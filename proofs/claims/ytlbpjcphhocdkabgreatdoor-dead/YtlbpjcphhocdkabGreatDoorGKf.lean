/-Plain: the dead line: each message fails, behind just Tries + 1 bids; then there is silence. Plain: a line without faults: the first turn is station 0's; the stations take turns. What holds of a run while a script is played. -/
import Derived.Test.YtlbpjcphhocdkabGreatDoorGPc
import Derived.Test.YtlbpjcphhocdkabGreatDoorGKe2
namespace Go.Proofs.YtlbpjcphhocdkabGreatDoor.Run
open Go.Proofs.YtlbpjcphhocdkabGreatDoor.Mod Go.Proofs.YtlbpjcphhocdkabGreatDoor.Pst

def loseR (r : R) : R := { r with x := faultL r.x 0 0 0 }
theorem lose_same (x : Ln) : (faultL x 0 0 0).s0 = x.s0 ∧ (faultL x 0 0 0).s1 = x.s1 ∧ (faultL x 0 0 0).c = x.c ∧ (faultL x 0 0 0).now = x.now := by
  unfold faultL
  split
  · exact ⟨rfl, rfl, rfl, rfl⟩
  · split <;> exact ⟨rfl, rfl, rfl, rfl⟩
theorem lose_on (x : Ln) : ((faultL x 0 0 0).on0 = [] ∧ (faultL x 0 0 0).on1 = []) ∨ ((faultL x 0 0 0).on0 ≠ [] ∧ (faultL x 0 0 0).on1 ≠ []) := by
  unfold faultL
  by_cases a : x.on0 = [] <;> by_cases b : x.on1 = [] <;> simp [a, b, faultOf]
theorem dead_hears (x : Ln) : hears0 (faultL x 0 0 0) = .none 0 ∧ hears1 (faultL x 0 0 0) = .none 0 := by
  unfold hears0 hears1
  rcases lose_on x with ⟨a, b⟩ | ⟨a, b⟩
  · rw [a, b]; simp [hear_nil]
  · rw [if_pos a, if_pos b]; exact ⟨rfl, rfl⟩
theorem dead_did (x : Ln) : did0 (faultL x 0 0 0) = one x.c (x.now + 1) 0 x.s0 (.none 0) ∧ did1 (faultL x 0 0 0) = one x.c (x.now + 1) 1 x.s1 (.none 0) := by
  obtain ⟨a, b, c, d⟩ := lose_same x
  obtain ⟨e, f⟩ := dead_hears x
  unfold did0 did1
  rw [a, b, c, d, e, f]
  exact ⟨rfl, rfl⟩

/-- How often it bid, how many were told of. -/
def cnt (k : Nat × Nat) (d : Did) : Nat × Nat := if d.2.2.isSome then (isBid d.2.1, k.2 + 1) else (k.1 + isBid d.2.1, k.2)
/-- What each event on a dead line is. -/
def DeadEv (c : Cfg) (i : Nat) (k : Nat × Nat) (d : Did) : Prop := ∀ e, d.2.2 = some e → e.kind = 3 ∧ e.station = i ∧ (k.2 = 0 ∨ k.1 = c.tries + 1)
theorem dead_cnt {c : Cfg} {now i : Nat} {s : Stn} {p : Put} {k : Nat × Nat} (hs : StOk c now i s p) (h : BidsOk s k.1 k.2) :
    DeadEv c i k (one c (now + 1) i s (.none 0)) ∧ BidsOk (one c (now + 1) i s (.none 0)).1 (cnt k (one c (now + 1) i s (.none 0))).1 (cnt k (one c (now + 1) i s (.none 0))).2 := by
  rcases bids_step hs h with ⟨e, b⟩ | ⟨e, h1, h2, h3, _, _, h6, h7⟩
  · refine ⟨fun e' he => (by rw [e] at he; exact absurd he (by simp)), ?_⟩
    unfold cnt
    rw [e]
    exact b
  · refine ⟨fun e' he => (by rw [h1] at he; cases he; exact ⟨h2, h3, h6⟩), ?_⟩
    unfold cnt
    rw [h1]
    exact h7

structure Ded (r : R) (k m : Nat × Nat) : Prop where
  book : Book r
  wild : r.wild = true
  k : BidsOk r.x.s0 k.1 k.2
  m : BidsOk r.x.s1 m.1 m.2
/-- Behind a tick: was a bid put? -/
theorem bid_on {c : Cfg} (hc : c.Ok) {p : Put} (hp : PutOk p) : (txOf c p = bidL) ↔ p = .short 3 := by
  constructor
  · intro e
    have h := hear_exact hc hp
    have h3 := hear_exact hc (show PutOk (.short 3) from ⟨by decide, by decide⟩)
    rw [tx_bid] at h3
    rw [e, h3] at h
    cases p with
    | nil => simp [exact'] at h
    | short k => simp [exact'] at h; rw [← h]
    | blk b => simp [exact'] at h
  · intro e; rw [e]; rfl
theorem isBid_on {c : Cfg} (hc : c.Ok) {p : Put} (hp : PutOk p) : isBid p = if txOf c p = bidL then 1 else 0 := by
  unfold isBid
  by_cases z : p = .short 3
  · rw [if_pos z, if_pos ((bid_on hc hp).2 z)]
  · rw [if_neg z, if_neg fun e => z ((bid_on hc hp).1 e)]

theorem Ded.step {r : R} {k m : Nat × Nat} (h : Ded r k m) :
    TickOk (loseR r) ∧ TickR (loseR r) (tkR (loseR r)) ∧ Ded (tkR (loseR r)) (cnt k (did0 (loseR r).x)) (cnt m (did1 (loseR r).x)) ∧ DeadEv r.x.c 0 k (did0 (loseR r).x) ∧ DeadEv r.x.c 1 m (did1 (loseR r).x)
    ∧ isBid (did0 (loseR r).x).2.1 = (if (tkR (loseR r)).x.on0 = bidL then 1 else 0) ∧ isBid (did1 (loseR r).x).2.1 = (if (tkR (loseR r)).x.on1 = bidL then 1 else 0) := by
  have hb : Book (loseR r) := fault_book h.book 0 0 0
  obtain ⟨t1, t2, t3⟩ := wild_tick hb (show (loseR r).wild = true from h.wild)
  obtain ⟨q0, s0⟩ := h.book.good.s0
  obtain ⟨q1, s1⟩ := h.book.good.s1
  obtain ⟨d0, d1⟩ := dead_did r.x
  have hc := h.book.good.c
  obtain ⟨a1, a2⟩ := dead_cnt s0 h.k
  obtain ⟨b1, b2⟩ := dead_cnt s1 h.m
  have e0 : did0 (loseR r).x = one r.x.c (r.x.now + 1) 0 r.x.s0 (.none 0) := d0
  have e1 : did1 (loseR r).x = one r.x.c (r.x.now + 1) 1 r.x.s1 (.none 0) := d1
  have ec : (loseR r).x.c = r.x.c := (lose_same r.x).2.2.1
  refine ⟨t1, t2, ⟨t3, t2.wild.trans h.wild, ?_, ?_⟩, ?_, ?_, ?_, ?_⟩
  · rw [t2.x]; show BidsOk (did0 (loseR r).x).1 _ _; rw [e0]; exact a2
  · rw [t2.x]; show BidsOk (did1 (loseR r).x).1 _ _; rw [e1]; exact b2
  · rw [e0]; exact a1
  · rw [e1]; exact b1
  · rw [t2.x]
    show _ = if txOf (loseR r).x.c (did0 (loseR r).x).2.1 = bidL then 1 else 0
    rw [ec, e0]
    exact isBid_on hc (one_put hc _ s0 h.book.good.b0)
  · rw [t2.x]
    show _ = if txOf (loseR r).x.c (did1 (loseR r).x).2.1 = bidL then 1 else 0
    rw [ec, e1]
    exact isBid_on hc (one_put hc _ s1 h.book.good.b1)

/-- Within the bound all have failed. -/
def Tl (r : R) (n : Nat) : Prop := (r.x.s0.queue ≠ [] → tau r.x.c r.x.now 0 r.x.s0 ≤ n) ∧ (r.x.s1.queue ≠ [] → tau r.x.c r.x.now 1 r.x.s1 ≤ n)
theorem Tl.start {r : R} (h : Book r) : Tl r (r.x.c.lost + (leftN r + 1) * turnD r.x.c) := by
  obtain ⟨q0, s0⟩ := h.good.s0
  obtain ⟨q1, s1⟩ := h.good.s1
  have a := tau_le h.good.c s0 h.good.b0.rest
  have b := tau_le h.good.c s1 h.good.b1.rest
  rw [left_q h]
  have m0 := Nat.mul_le_mul_right (turnD r.x.c) (show r.x.s0.queue.length + 1 ≤ r.x.s0.queue.length + r.x.s1.queue.length + 1 by omega)
  have m1 := Nat.mul_le_mul_right (turnD r.x.c) (show r.x.s1.queue.length + 1 ≤ r.x.s0.queue.length + r.x.s1.queue.length + 1 by omega)
  exact ⟨fun _ => by omega, fun _ => by omega⟩
theorem out_queue {i : Nat} {s s' : Stn} {e : Option Ev} (h : Out i s s' e) (hq : s'.queue ≠ []) : s.queue ≠ [] := by
  intro z
  apply hq
  cases h with
  | no q j => rw [q, z]
  | came m q j => rw [q, z]
  | told k hk ne q j => exact absurd z ne
theorem lose_tick (x : Ln) : tick (faultL x 0 0 0) = { x with now := x.now + 1, s0 := (one x.c (x.now + 1) 0 x.s0 (.none 0)).1, s1 := (one x.c (x.now + 1) 1 x.s1 (.none 0)).1, on0 := txOf x.c (one x.c (x.now + 1) 0 x.s0 (.none 0)).2.1, on1 := txOf x.c (one x.c (x.now + 1) 1 x.s1 (.none 0)).2.1 } := by
  obtain ⟨d0, d1⟩ := dead_did x
  obtain ⟨_, _, c, d⟩ := lose_same x
  unfold tick
  rw [d0, d1, c, d]
theorem Ded.x {r : R} {k m : Nat × Nat} (h : Ded r k m) : (tkR (loseR r)).x = tick (faultL r.x 0 0 0) := h.step.2.1.x
theorem Tl.step {r : R} {k m : Nat × Nat} {n : Nat} (h : Ded r k m) (t : Tl r (n + 1)) : Tl (tkR (loseR r)) n := by
  obtain ⟨q0, s0⟩ := h.book.good.s0
  obtain ⟨q1, s1⟩ := h.book.good.s1
  unfold Tl
  rw [h.x, lose_tick]
  constructor
  · intro hq
    have hq' := out_queue (out_of _ s0) hq
    have := tau_fall s0 hq'
    have := t.1 hq'
    show tau r.x.c (r.x.now + 1) 0 (one r.x.c (r.x.now + 1) 0 r.x.s0 (.none 0)).1 ≤ n
    omega
  · intro hq
    have hq' := out_queue (out_of _ s1) hq
    have := tau_fall s1 hq'
    have := t.2 hq'
    show tau r.x.c (r.x.now + 1) 1 (one r.x.c (r.x.now + 1) 1 r.x.s1 (.none 0)).1 ≤ n
    omega
theorem Tl.end' {r : R} {k m : Nat × Nat} (h : Ded r k m) (t : Tl r 0) : leftN r = 0 := by
  obtain ⟨q0, s0⟩ := h.book.good.s0
  obtain ⟨q1, s1⟩ := h.book.good.s1
  rw [left_q h.book]
  have a : r.x.s0.queue = [] := by
    by_cases z : r.x.s0.queue = []
    · exact z
    · have := tau_fall s0 z; have := t.1 z; omega
  have b : r.x.s1.queue = [] := by
    by_cases z : r.x.s1.queue = []
    · exact z
    · have := tau_fall s1 z; have := t.2 z; omega
  rw [a, b]
  rfl

/-- Silence. -/
theorem Ded.sil {r : R} {k m : Nat × Nat} {D : Nat} (h : Ded r k m) (g : Sil D r.x.s0 r.x.s1) : Sil D (tkR (loseR r)).x.s0 (tkR (loseR r)).x.s1 ∧ (tkR (loseR r)).x.on0 = [] ∧ (tkR (loseR r)).x.on1 = [] ∧ (tkR (loseR r)).x.now = r.x.now + 1 ∧ (tkR (loseR r)).x.c = r.x.c := by
  obtain ⟨q0, s0⟩ := h.book.good.s0
  obtain ⟨q1, s1⟩ := h.book.good.s1
  have a := sil_one (h := .none 0) s0 g.q0 g.d0 (Or.inl rfl)
  have b := sil_one (h := .none 0) s1 g.q1 g.d1 (Or.inl rfl)
  rw [h.x, lose_tick]
  refine ⟨⟨a.1, b.1, a.2.2.2.1, b.2.2.2.1⟩, ?_, ?_, rfl, rfl⟩
  · show txOf r.x.c _ = []
    rw [a.2.1]; rfl
  · show txOf r.x.c _ = []
    rw [b.2.1]; rfl
theorem Ded.sil0 {r : R} {k m : Nat × Nat} (h : Ded r k m) (hl : leftN r = 0) : Sil (r.x.now + r.x.c.lost) r.x.s0 r.x.s1 := by
  obtain ⟨q0, s0⟩ := h.book.good.s0
  obtain ⟨q1, s1⟩ := h.book.good.s1
  rw [left_q h.book] at hl
  exact ⟨List.length_eq_zero_iff.1 (by omega), List.length_eq_zero_iff.1 (by omega), fun z => (s0.rcv z).2, fun z => (s1.rcv z).2⟩
theorem Ded.idle {r : R} {k m : Nat × Nat} {D : Nat} (h : Ded r k m) (g : Sil D r.x.s0 r.x.s1) (hD : D ≤ r.x.now) : r.x.s0.mode = 0 ∧ r.x.s1.mode = 0 ∧ leftN r = 0 := by
  obtain ⟨q0, s0⟩ := h.book.good.s0
  obtain ⟨q1, s1⟩ := h.book.good.s1
  refine ⟨?_, ?_, ?_⟩
  · rcases sil_modes s0 g.q0 with z | z
    · exact z
    · have := s0.rcv z; have := g.d0 z; omega
  · rcases sil_modes s1 g.q1 with z | z
    · exact z
    · have := s1.rcv z; have := g.d1 z; omega
  · rw [left_q h.book, g.q0, g.q1]; rfl

end Go.Proofs.YtlbpjcphhocdkabGreatDoor.Run

namespace Go.Proofs.YtlbpjcphhocdkabGreatDoor.Run
open Go.Proofs.YtlbpjcphhocdkabGreatDoor.Mod Go.Proofs.YtlbpjcphhocdkabGreatDoor.Pst

/-- A run without faults, from its first tick on: whose turn it is. -/
structure Frr (r : R) (p0 p1 : Put) (d : Nat) : Prop where
  cam : Cam r p0 p1
  yng : Yng r.x.s0 r.x.s1 p0 p1 true true
  ph : Ph r.x.now r.x.s0 r.x.s1 p0 p1 d

theorem told_iff (d : Did) : told d ↔ isTold d.2.2 = true := by
  constructor
  · rintro ⟨e, h, k⟩; rw [h]; exact decide_eq_true k
  · exact told_is
theorem isTold_not {d : Did} (h : ¬ told d) : isTold d.2.2 = false := by
  cases e : isTold d.2.2 with
  | false => rfl
  | true => exact absurd (told_is e) h
theorem Frr.step {r : R} {p0 p1 : Put} {d : Nat} (h : Frr r p0 p1 d) (hq0 : d = 0 → r.x.s0.queue ≠ [] ∧ r.x.s1.queue ≠ []) (hq1 : d = 1 → r.x.s1.queue ≠ []) :
    ∃ d', Frr (tkR r) (did0 r.x).2.1 (did1 r.x).2.1 d' ∧ ¬ fails (did0 r.x) ∧ ¬ fails (did1 r.x) ∧
      ((d' = d ∧ ¬ told (did0 r.x) ∧ ¬ told (did1 r.x)) ∨ (d = 0 ∧ d' = 1 ∧ told (did0 r.x) ∧ ¬ told (did1 r.x)) ∨ (d = 1 ∧ d' = 0 ∧ ¬ told (did0 r.x) ∧ told (did1 r.x))) := by
  obtain ⟨_, t, i, _, np⟩ := inv_tick h.cam.cal.inv
  have hc := h.cam.cal.inv.book.good.c
  obtain ⟨f0, f1, g⟩ := yng_step hc h.cam.st h.yng
  have ph := ph_step hc h.cam.st h.yng h.ph hq0 hq1
  rw [ynew_true, ynew_true] at g
  rw [← h.cam.did0, ← h.cam.did1] at g ph
  rw [← h.cam.did0] at f0
  rw [← h.cam.did1] at f1
  have c := h.cam.cal.tick
  have mk : ∀ d', Ph (r.x.now + 1) (did0 r.x).1 (did1 r.x).1 (did0 r.x).2.1 (did1 r.x).2.1 d' → Frr (tkR r) (did0 r.x).2.1 (did1 r.x).2.1 d' := by
    intro d' z
    refine ⟨c, ?_, ?_⟩
    · rw [t.x]; exact g
    · rw [t.x]; exact z
  rcases ph with ⟨z, a, b⟩ | ⟨e, z, a, b⟩ | ⟨e, z, a, b⟩
  · exact ⟨d, mk d z, f0 rfl, f1 rfl, Or.inl ⟨rfl, a, b⟩⟩
  · exact ⟨1, mk 1 z, f0 rfl, f1 rfl, Or.inr (Or.inl ⟨e, rfl, a, b⟩)⟩
  · exact ⟨0, mk 0 z, f0 rfl, f1 rfl, Or.inr (Or.inr ⟨e, rfl, a, b⟩)⟩

theorem told_next {r : R} (h : Inv r) : (tkR r).a.told = r.a.told + (if isTold (did0 r.x).2.2 then 1 else 0) ∧ (tkR r).b.told = r.b.told + (if isTold (did1 r.x).2.2 then 1 else 0) ∧ (tkR r).a.want = r.a.want ∧ (tkR r).b.want = r.b.want := by
  obtain ⟨_, t, _⟩ := inv_tick h
  rw [t.a, t.b]
  exact ⟨sideN_told _ _ _ _, sideN_told _ _ _ _, sideN_want _ _ _ _, sideN_want _ _ _ _⟩
theorem SBook.ne {s : Stn} {d : Side} (h : SBook s d) (hl : d.told < d.want.length) : s.queue ≠ [] := by
  intro z
  have := h.fit
  rw [z] at this
  simp at this
  omega

/-- Fair's loop. -/
def FL (r : R) (n : Nat) : Prop := ∃ p0 p1 d, Frr r p0 p1 d ∧ phi r p0 p1 < n ∧ r.a.want.length = r.b.want.length ∧ ((d = 0 ∧ r.a.told = r.b.told) ∨ (d = 1 ∧ r.a.told = r.b.told + 1))
theorem FL.cal {r : R} {n : Nat} (h : FL r n) : Cal r := by obtain ⟨_, _, _, h, _⟩ := h; exact h.cam.cal
theorem FL.pos {r : R} {n : Nat} (h : FL r n) : 0 < n := by obtain ⟨_, _, _, _, h, _⟩ := h; omega
theorem FL.turn {r : R} {n : Nat} (h : FL r n) : r.b.told ≤ r.a.told ∧ r.a.told ≤ r.b.told + 1 := by obtain ⟨_, _, _, _, _, _, h⟩ := h; omega
theorem FL.step {r : R} {n : Nat} (h : FL r (n + 1)) (hl : 0 < leftN r) : FL (tkR r) n ∧ ¬ fails (did0 r.x) ∧ ¬ fails (did1 r.x) := by
  obtain ⟨p0, p1, d, h, hp, hw, hd⟩ := h
  have hb := h.cam.cal.inv.book
  have ta := hb.a.t
  have tb := hb.b.t
  unfold leftN at hl
  obtain ⟨d', h', f0, f1, k⟩ := h.step (fun e => ⟨hb.a.ne (by omega), hb.b.ne (by omega)⟩) (fun e => hb.b.ne (by omega))
  have hf := h.cam.fall (show 0 < leftN r from hl)
  obtain ⟨n0, n1, w0, w1⟩ := told_next h.cam.cal.inv
  refine ⟨⟨_, _, d', h', by omega, by rw [w0, w1]; exact hw, ?_⟩, f0, f1⟩
  rw [n0, n1]
  rcases k with ⟨e, a, b⟩ | ⟨e, e', a, b⟩ | ⟨e, e', a, b⟩
  · rw [isTold_not a, isTold_not b]; simp; omega
  · rw [(told_iff _).1 a, isTold_not b]; simp; omega
  · rw [(told_iff _).1 b, isTold_not a]; simp; omega
theorem FL.start {r : R} {p0 p1 : Put} (h : Frr r p0 p1 0) (hw : r.a.want.length = r.b.want.length) (ht : r.a.told = r.b.told) : FL r (boundN r) := by
  refine ⟨p0, p1, 0, h, ?_, hw, Or.inl ⟨rfl, ht⟩⟩
  have b := h.cam.bound
  unfold boundN
  have e : (leftN r + 2) * turnN r.x.c = turnN r.x.c * (leftN r + 1) + turnN r.x.c := by
    rw [Nat.mul_comm, ← Nat.mul_succ]
  omega

/-- In station 0's turn station 1 does not send. -/
theorem ph0_mode {c : Cfg} {now : Nat} {s0 s1 : Stn} {p0 p1 : Put} (ht : Tok c now s0 s1 p0 p1) (h : Ph now s0 s1 p0 p1 0) : s1.mode ≠ 2 := by
  cases h with
  | start a b => omega
  | both a b => omega
  | bid0 a b => omega
  | yes0 a b => omega
  | snd0 a d => have := (ht.k0 a).1; omega
  | end1 a => omega
  | gap1 a => omega
/-- Primary's loop. -/
def PL (r : R) (n : Nat) : Prop := ∃ p0 p1, Cam r p0 p1 ∧ phi r p0 p1 < n ∧ 0 < r.a.want.length ∧ 0 < r.b.want.length ∧ (r.a.told = 0 → r.b.told = 0 ∧ Frr r p0 p1 0)
theorem PL.cal {r : R} {n : Nat} (h : PL r n) : Cal r := by obtain ⟨_, _, h, _⟩ := h; exact h.cal
theorem PL.pos {r : R} {n : Nat} (h : PL r n) : 0 < n := by obtain ⟨_, _, _, h, _⟩ := h; omega
theorem PL.turn {r : R} {n : Nat} (h : PL r n) : r.a.told = 0 → r.b.told = 0 := by obtain ⟨_, _, _, _, _, _, h⟩ := h; exact fun e => (h e).1
theorem PL.start {r : R} {p0 p1 : Put} (h : Frr r p0 p1 0) (w0 : 0 < r.a.want.length) (w1 : 0 < r.b.want.length) (ht : r.b.told = 0) : PL r (boundN r) := by
  refine ⟨p0, p1, h.cam, ?_, w0, w1, fun _ => ⟨ht, h⟩⟩
  have b := h.cam.bound
  unfold boundN
  have e : (leftN r + 2) * turnN r.x.c = turnN r.x.c * (leftN r + 1) + turnN r.x.c := by
    rw [Nat.mul_comm, ← Nat.mul_succ]
  omega
theorem PL.step {r : R} {n : Nat} (h : PL r (n + 1)) (hl : 0 < leftN r) : PL (tkR r) n ∧ ((tkR r).a.told = 0 → isCame (did0 r.x).2.2 = false) := by
  obtain ⟨p0, p1, h, hp, w0, w1, k⟩ := h
  have hb := h.cal.inv.book
  have hf := h.fall hl
  obtain ⟨n0, n1, e0, e1⟩ := told_next h.cal.inv
  have key : (tkR r).a.told = 0 → (tkR r).b.told = 0 ∧ Frr (tkR r) (did0 r.x).2.1 (did1 r.x).2.1 0 := by
    intro z
    have z0 : r.a.told = 0 := by omega
    obtain ⟨zb, fr⟩ := k z0
    obtain ⟨d', h', f0, f1, k'⟩ := fr.step (fun e => ⟨hb.a.ne (by omega), hb.b.ne (by omega)⟩) (fun e => by cases e)
    rcases k' with ⟨e, a, b⟩ | ⟨e, e', a, b⟩ | ⟨e, e', a, b⟩
    · subst e
      refine ⟨?_, h'⟩
      rw [n1, isTold_not b, zb]; rfl
    · rw [n0, (told_iff _).1 a] at z; simp at z
    · cases e
  refine ⟨⟨_, _, h.cal.tick, by omega, by rw [e0]; exact w0, by rw [e1]; exact w1, key⟩, ?_⟩
  intro z
  obtain ⟨_, fr⟩ := key z
  cases e : isCame (did0 r.x).2.2 with
  | false => rfl
  | true =>
    exfalso
    obtain ⟨_, t, _⟩ := inv_tick h.cal.inv
    obtain ⟨q0, q1, hq, s0, s1⟩ := dirs h.cal.inv
    have m : (did1 r.x).1.mode ≠ 2 := by
      have := ph0_mode fr.cam.pts.tok fr.ph
      rw [t.x] at this
      exact this
    have h0 := s1.dir.off m
    cases e' : (did0 r.x).2.2 with
    | none => rw [e'] at e; cases e
    | some ev =>
      rw [e'] at e
      have h1 := (s1.came ev e' (of_decide_eq_true e)).2.2.2.1
      rw [h0] at h1
      cases h1

/-- The first ticks. -/
structure Fst (r : R) (p0 p1 : Put) (T : Nat) : Prop where
  fr : Frr r p0 p1 0
  m0 : r.x.s0.mode = 1
  m1 : r.x.s1.mode = 1
  d0 : r.x.s0.due = T + r.x.c.first
  d1 : r.x.s1.due = T + r.x.c.second
  t0 : r.x.s0.tries = 1
  f0 : r.x.s0.free = false
  h0 : hE p0 p1 = .none 0
  h1 : hE p1 p0 = .none 0
theorem frr_zero {r : R} {p0 p1 : Put} (h : Frr r p0 p1 0) (q0 : r.x.s0.queue ≠ []) (q1 : r.x.s1.queue ≠ []) (n0 : (did0 r.x).2.2 = none) (n1 : (did1 r.x).2.2 = none) : Frr (tkR r) (did0 r.x).2.1 (did1 r.x).2.1 0 ∧ (tkR r).a.told = r.a.told ∧ (tkR r).b.told = r.b.told ∧ (tkR r).a.want = r.a.want ∧ (tkR r).b.want = r.b.want := by
  obtain ⟨d', h', _, _, k⟩ := h.step (fun _ => ⟨q0, q1⟩) (fun e => by cases e)
  obtain ⟨a, b, c, d⟩ := told_next h.cam.cal.inv
  have t0 : ¬ told (did0 r.x) := by rintro ⟨e, z, _⟩; rw [n0] at z; cases z
  have t1 : ¬ told (did1 r.x) := by rintro ⟨e, z, _⟩; rw [n1] at z; cases z
  refine ⟨?_, by rw [a, isTold_not t0]; rfl, by rw [b, isTold_not t1]; rfl, c, d⟩
  rcases k with ⟨e, _, _⟩ | ⟨_, _, z, _⟩ | ⟨_, _, _, z⟩
  · rw [← e]; exact h'
  · exact absurd z t0
  · exact absurd z t1
/-- What the sides are left as. -/
def Same (r r' : R) : Prop := r'.a.told = r.a.told ∧ r'.b.told = r.b.told ∧ r'.a.want = r.a.want ∧ r'.b.want = r.b.want ∧ r'.x.c = r.x.c ∧ r'.x.now = r.x.now + 1 ∧ r'.x.s0.queue = r.x.s0.queue ∧ r'.x.s1.queue = r.x.s1.queue

theorem frr_one {r : R} (h : Frr r .nil .nil 0) (m0 : r.x.s0.mode = 0) (m1 : r.x.s1.mode = 0) (r0 : r.x.s0.rest ≤ r.x.now + 1) (r1 : r.x.s1.rest ≤ r.x.now + 1) (q0 : r.x.s0.queue ≠ []) (q1 : r.x.s1.queue ≠ []) :
    Fst (tkR r) (.short 3) (.short 3) (r.x.now + 1) ∧ (tkR r).x.on0 = bidL ∧ (tkR r).x.on1 = bidL ∧ Same r (tkR r) := by
  obtain ⟨_, t, _⟩ := inv_tick h.cam.cal.inv
  have e0 : did0 r.x = bids r.x.c (r.x.now + 1) 0 r.x.s0 := by rw [h.cam.did0]; exact idle_bids m0 q0 r0
  have e1 : did1 r.x = bids r.x.c (r.x.now + 1) 1 r.x.s1 := by rw [h.cam.did1]; exact idle_bids m1 q1 r1
  have z := frr_zero h q0 q1 (by rw [e0]; rfl) (by rw [e1]; rfl)
  obtain ⟨fr, a, b, c, d⟩ := z
  have p0 : (did0 r.x).2.1 = .short 3 := by rw [e0]; rfl
  have p1 : (did1 r.x).2.1 = .short 3 := by rw [e1]; rfl
  rw [p0, p1] at fr
  have x0 : (tkR r).x.s0 = (bids r.x.c (r.x.now + 1) 0 r.x.s0).1 := by rw [t.x]; show (did0 r.x).1 = _; rw [e0]
  have x1 : (tkR r).x.s1 = (bids r.x.c (r.x.now + 1) 1 r.x.s1).1 := by rw [t.x]; show (did1 r.x).1 = _; rw [e1]
  have xc : (tkR r).x.c = r.x.c := by rw [t.x]; rfl
  refine ⟨⟨fr, by rw [x0]; rfl, by rw [x1]; rfl, by rw [x0, xc]; rfl, by rw [x1, xc]; rfl, by rw [x0]; rfl, by rw [x0]; rfl, rfl, rfl⟩, ?_, ?_, a, b, c, d, xc, by rw [t.x]; rfl, by rw [x0]; rfl, by rw [x1]; rfl⟩
  · rw [t.x]; show txOf _ (did0 r.x).2.1 = _; rw [p0]; rfl
  · rw [t.x]; show txOf _ (did1 r.x).2.1 = _; rw [p1]; rfl
theorem Fst.quiet {r : R} {p0 p1 : Put} {T : Nat} (h : Fst r p0 p1 T) (hn : r.x.now + 1 < T + r.x.c.first) (q0 : r.x.s0.queue ≠ []) (q1 : r.x.s1.queue ≠ []) :
    Fst (tkR r) .nil .nil T ∧ (tkR r).x.on0 = [] ∧ (tkR r).x.on1 = [] ∧ Same r (tkR r) := by
  obtain ⟨_, t, _⟩ := inv_tick h.fr.cam.cal.inv
  have hc := h.fr.cam.cal.inv.book.good.c
  have := hc.second
  have e0 : did0 r.x = (r.x.s0, .nil, none) := by rw [h.fr.cam.did0, h.h0]; exact bid_sil h.m0 (by rw [h.d0]; omega)
  have e1 : did1 r.x = (r.x.s1, .nil, none) := by rw [h.fr.cam.did1, h.h1]; exact bid_sil h.m1 (by rw [h.d1]; omega)
  obtain ⟨fr, a, b, c, d⟩ := frr_zero h.fr q0 q1 (by rw [e0]) (by rw [e1])
  have p0 : (did0 r.x).2.1 = .nil := by rw [e0]
  have p1 : (did1 r.x).2.1 = .nil := by rw [e1]
  rw [p0, p1] at fr
  have x0 : (tkR r).x.s0 = r.x.s0 := by rw [t.x]; show (did0 r.x).1 = _; rw [e0]
  have x1 : (tkR r).x.s1 = r.x.s1 := by rw [t.x]; show (did1 r.x).1 = _; rw [e1]
  have xc : (tkR r).x.c = r.x.c := by rw [t.x]; rfl
  refine ⟨⟨fr, by rw [x0]; exact h.m0, by rw [x1]; exact h.m1, by rw [x0, xc]; exact h.d0, by rw [x1, xc]; exact h.d1, by rw [x0]; exact h.t0, by rw [x0]; exact h.f0, rfl, rfl⟩, ?_, ?_, a, b, c, d, xc, by rw [t.x]; rfl, by rw [x0], by rw [x1]⟩
  · rw [t.x]; show txOf _ (did0 r.x).2.1 = _; rw [p0]; rfl
  · rw [t.x]; show txOf _ (did1 r.x).2.1 = _; rw [p1]; rfl
/-- Station 0 bids again. -/
structure Snd (r : R) : Prop where
  fr : Frr r (.short 3) .nil 0
  m0 : r.x.s0.mode = 1
  m1 : r.x.s1.mode = 1
  d0 : r.x.s0.due = r.x.now + r.x.c.first
theorem Fst.again {r : R} {p0 p1 : Put} {T : Nat} (h : Fst r p0 p1 T) (hn : r.x.now + 1 = T + r.x.c.first) (q0 : r.x.s0.queue ≠ []) (q1 : r.x.s1.queue ≠ []) :
    Snd (tkR r) ∧ (tkR r).x.on0 = bidL ∧ (tkR r).x.on1 = [] ∧ Same r (tkR r) := by
  obtain ⟨_, t, _⟩ := inv_tick h.fr.cam.cal.inv
  have hc := h.fr.cam.cal.inv.book.good.c
  have := hc.second
  have e0 : did0 r.x = ({ r.x.s0 with tries := 2, free := false, due := r.x.now + 1 + patience r.x.c 0 1 }, .short 3, none) := by
    rw [h.fr.cam.did0, h.h0]
    rcases bid_out (c := r.x.c) (T := r.x.now + 1) (i := 0) (h := .none 0) h.m0 with ⟨k, _⟩ | ⟨k, _⟩ | ⟨k, _⟩ | ⟨_, _, _, ⟨_, e⟩ | ⟨e, _⟩⟩
    · simp [kindOf] at k
    · simp [kindOf] at k
    · simp [kindOf] at k
    · rw [e]; exact over_bid hc h.m0 h.f0 h.t0
    · exact absurd (by rw [h.d0]; exact hn) e
  have e1 : did1 r.x = (r.x.s1, .nil, none) := by rw [h.fr.cam.did1, h.h1]; exact bid_sil h.m1 (by rw [h.d1]; omega)
  obtain ⟨fr, a, b, c, d⟩ := frr_zero h.fr q0 q1 (by rw [e0]) (by rw [e1])
  have p0 : (did0 r.x).2.1 = .short 3 := by rw [e0]
  have p1 : (did1 r.x).2.1 = .nil := by rw [e1]
  rw [p0, p1] at fr
  have x0 : (tkR r).x.s0 = (did0 r.x).1 := by rw [t.x]; rfl
  rw [e0] at x0
  have x1 : (tkR r).x.s1 = r.x.s1 := by rw [t.x]; show (did1 r.x).1 = _; rw [e1]
  have xc : (tkR r).x.c = r.x.c := by rw [t.x]; rfl
  have xn : (tkR r).x.now = r.x.now + 1 := by rw [t.x]; rfl
  refine ⟨⟨fr, by rw [x0]; exact h.m0, by rw [x1]; exact h.m1, by rw [x0, xc, xn]; rfl⟩, ?_, ?_, a, b, c, d, xc, xn, by rw [x0], by rw [x1]⟩
  · rw [t.x]; show txOf _ (did0 r.x).2.1 = _; rw [p0]; rfl
  · rw [t.x]; show txOf _ (did1 r.x).2.1 = _; rw [p1]; rfl
theorem Snd.said {r : R} (h : Snd r) (q0 : r.x.s0.queue ≠ []) (q1 : r.x.s1.queue ≠ []) :
    (∃ p0 p1, Frr (tkR r) p0 p1 0) ∧ (tkR r).x.on0 = [] ∧ (tkR r).x.on1 = yesL ∧ Same r (tkR r) := by
  obtain ⟨_, t, _⟩ := inv_tick h.fr.cam.cal.inv
  have hc := h.fr.cam.cal.inv.book.good.c
  have := hc.first
  have hb := h.fr.cam.cal.b1
  have e0 : did0 r.x = (r.x.s0, .nil, none) := by rw [h.fr.cam.did0, show hE (.short 3) .nil = .none 0 from rfl]; exact bid_sil h.m0 (by rw [h.d0]; omega)
  have e1 : did1 r.x = answers r.x.c (r.x.now + 1) r.x.s1 := by
    rw [h.fr.cam.did1, show hE .nil (.short 3) = .none 3 from rfl]
    rcases bid_out (c := r.x.c) (T := r.x.now + 1) (i := 1) (h := .none 3) h.m1 with ⟨k, _⟩ | ⟨k, _⟩ | ⟨_, _, e⟩ | ⟨_, _, k, _⟩
    · simp [kindOf] at k
    · simp [kindOf] at k
    · exact e
    · exact absurd ⟨rfl, rfl⟩ k
  have ea : answers r.x.c (r.x.now + 1) r.x.s1 = ({ r.x.s1 with got := [], count := 0, mode := 3, due := r.x.now + 1 + r.x.c.lost }, .short 7, none) := by
    unfold answers; rw [if_neg (by rw [hb]; decide)]
  rw [ea] at e1
  obtain ⟨fr, a, b, c, d⟩ := frr_zero h.fr q0 q1 (by rw [e0]) (by rw [e1])
  have p0 : (did0 r.x).2.1 = .nil := by rw [e0]
  have p1 : (did1 r.x).2.1 = .short 7 := by rw [e1]
  have x0 : (tkR r).x.s0 = r.x.s0 := by rw [t.x]; show (did0 r.x).1 = _; rw [e0]
  have x1 : (tkR r).x.s1 = (did1 r.x).1 := by rw [t.x]; rfl
  rw [e1] at x1
  refine ⟨⟨_, _, fr⟩, ?_, ?_, a, b, c, d, by rw [t.x]; rfl, by rw [t.x]; rfl, by rw [x0], by rw [x1]⟩
  · rw [t.x]; show txOf _ (did0 r.x).2.1 = _; rw [p0]; rfl
  · rw [t.x]; show txOf _ (did1 r.x).2.1 = _; rw [p1]; rfl

end Go.Proofs.YtlbpjcphhocdkabGreatDoor.Run

namespace Go.Proofs.YtlbpjcphhocdkabGreatDoor
open Go.Proofs.YtlbpjcphhocdkabGreatDoor.Mod Go.Proofs.YtlbpjcphhocdkabGreatDoor.Pst Go.Proofs.YtlbpjcphhocdkabGreatDoor.Run

/-- A fault that a check finds, or that takes all. -/
theorem fault_inv {r : R} (h : Inv r) (kind a b : Int) : Inv (faultR r kind a b) := by
  have hc := h.book.good.c
  obtain ⟨p0, p1, hp⟩ := h.pts
  unfold faultR
  split
  · exact ⟨fault_book h.book 0 0 0, h.nw, p0, p1, on_fault hp (fun e => e) (flt_lose _ _ _ _) (flt_lose _ _ _ _)⟩
  · rename_i z
    have kh : r.hit = false := by cases k : r.hit; rfl; exact absurd (Or.inr (Or.inl k)) z
    have ka : ¬ aloneI r.x < 0 := fun k => z (Or.inl k)
    unfold fltL
    have hb : Book { r with hit := true, x := faultL r.x (fltK (onOf r.x (aloneI r.x)) kind a b).1 (fltK (onOf r.x (aloneI r.x)) kind a b).2.1 (fltK (onOf r.x (aloneI r.x)) kind a b).2.2 } := fault_book (r := { r with hit := true }) ⟨h.book.good, h.book.a, h.book.b⟩ _ _ _
    refine ⟨hb, h.nw, p0, p1, ?_⟩
    rw [kh] at hp
    have key : ∀ l : List UInt8, (l ≠ [] → l = onOf r.x (aloneI r.x)) → Flt r.x.c false l ((faultOf l (fltK (onOf r.x (aloneI r.x)) kind a b).1 (fltK (onOf r.x (aloneI r.x)) kind a b).2.1 (fltK (onOf r.x (aloneI r.x)) kind a b).2.2).getD l) true := by
      intro l hl
      by_cases e : l = []
      · intro p _ k _; exact absurd e k
      · rw [← hl e]
        unfold fltK
        split
        · exact flt_cut hc _ _ _
        · split
          · rename_i hb
            unfold isBlk at hb
            simp only [Bool.and_eq_true, decide_eq_true_eq] at hb
            have h1 := pickI_lt a (l.length - 3) (by omega)
            exact flt_turn hc _ _ _ (by simp only; omega) hb.1
          · exact flt_lose _ _ _ _
    refine on_fault (hit' := true) hp (fun e => by cases e) (key _ ?_) (key _ ?_)
    · intro k
      unfold aloneI at ka ⊢
      by_cases z0 : r.x.on0 ≠ [] ∧ r.x.on1 = []
      · rw [if_pos z0]; rfl
      · rw [if_neg z0] at ka ⊢
        by_cases z1 : r.x.on0 = [] ∧ r.x.on1 ≠ []
        · exact absurd z1.1 k
        · rw [if_neg z1] at ka; exact absurd (by decide) ka
    · intro k
      unfold aloneI at ka ⊢
      by_cases z0 : r.x.on0 ≠ [] ∧ r.x.on1 = []
      · exact absurd z0.2 k
      · rw [if_neg z0] at ka ⊢
        by_cases z1 : r.x.on0 = [] ∧ r.x.on1 ≠ []
        · rw [if_pos z1]; rfl
        · rw [if_neg z1] at ka; exact absurd (by decide) ka

/-- While it is played; k: how many steps there were. -/
structure PI (wild : Bool) (k : Nat) (r : R) : Prop where
  book : Book r
  w : r.wild = wild
  inv : wild = false → Inv r
  ok : r.ok = true
  fits : r.fits = true
  token : wild = false → r.token = true
  fresh : r.fresh = true
  calm : r.calm = false
  la : r.a.want.length ≤ k
  lb : r.b.want.length ≤ k
theorem PI.more {wild : Bool} {k : Nat} {r : R} (h : PI wild k r) : PI wild (k + 1) r := ⟨h.book, h.w, h.inv, h.ok, h.fits, h.token, h.fresh, h.calm, Nat.le_succ_of_le h.la, Nat.le_succ_of_le h.lb⟩
theorem PI.tick {wild : Bool} {k : Nat} {r : R} (h : PI wild k r) : TickOk r ∧ PI wild k (tkR r) := by
  have key : TickOk r ∧ TickR r (tkR r) ∧ Book (tkR r) ∧ (wild = false → Inv (tkR r) ∧ (tkR r).token = r.token) := by
    cases hw : wild with
    | true =>
      obtain ⟨a, b, c⟩ := wild_tick h.book (h.w.trans hw)
      exact ⟨a, b, c, fun e => by cases e⟩
    | false =>
      obtain ⟨a, b, c, d, _⟩ := inv_tick (h.inv hw)
      exact ⟨a, b, c.book, fun _ => ⟨c, d⟩⟩
  obtain ⟨a, b, c, d⟩ := key
  refine ⟨a, c, b.wild.trans h.w, fun e => (d e).1, b.ok.trans h.ok, b.fits.trans h.fits, fun e => (d e).2.trans (h.token e), ?_, b.calm.trans h.calm, ?_, ?_⟩
  · rw [b.fresh]
    unfold freshN
    simp [h.calm, h.fresh]
  · rw [b.a, sideN_want]; exact h.la
  · rw [b.b, sideN_want]; exact h.lb
theorem submit_fit {r : R} {st : Int} {m : Msg} (hst : st = 0 ∨ st = 1) (hm : MsgFit m) : submitE r.x st m = if r.x.c.queue ≤ (stnOf r.x st).queue.length then 8 else 0 := by
  obtain ⟨h1, h2⟩ := (fit_iff m).1 hm
  unfold submitE
  rw [if_neg (by omega), h1, h2]
  simp
theorem PI.said {wild : Bool} {k : Nat} {r : R} (h : PI wild k r) {st : Int} {m : Msg} (hst : st = 0 ∨ st = 1) (hm : MsgFit m) : PI wild (k + 1) (saidR r st m) := by
  unfold saidR
  split
  · rename_i z
    have he : submitE r.x st m = 0 := by rw [submit_fit hst hm, if_neg (by omega)]
    have fl : (sayR r st m).wild = r.wild ∧ (sayR r st m).ok = r.ok ∧ (sayR r st m).fits = r.fits ∧ (sayR r st m).token = r.token ∧ (sayR r st m).fresh = r.fresh ∧ (sayR r st m).calm = r.calm := by
      obtain ⟨_, _, a, b, c, d, e, f⟩ := setSide_same r st { sideOf r st with want := (sideOf r st).want ++ [m] }
      exact ⟨a, c, d, e, f, b⟩
    obtain ⟨a, b, c, d, e, f⟩ := fl
    refine ⟨say_book h.book he, a.trans h.w, fun e => say_inv (h.inv e) he, b.trans h.ok, c.trans h.fits, fun x => d.trans (h.token x), e.trans h.fresh, f.trans h.calm, ?_, ?_⟩
    · have := h.la
      rcases hst with rfl | rfl
      · simp [sayR, setSide, sideOf]; omega
      · simp [sayR, setSide, sideOf]; omega
    · have := h.lb
      rcases hst with rfl | rfl
      · simp [sayR, setSide, sideOf]; omega
      · simp [sayR, setSide, sideOf]; omega
  · exact h.more
theorem PI.busied {wild : Bool} {k : Nat} {r : R} (h : PI wild k r) (st : Int) (on : Bool) : PI wild k { r with x := busyL r.x st on } :=
  ⟨busy_book h.book st on, h.w, fun e => busy_inv (h.inv e) st on, h.ok, h.fits, h.token, h.fresh, h.calm, h.la, h.lb⟩
theorem PI.faulted {wild : Bool} {k : Nat} {r : R} (h : PI wild k r) (kind a b : Int) : PI wild k (faultR r kind a b) := by
  have hb : Book (faultR r kind a b) := by
    unfold faultR
    split
    · exact fault_book h.book 0 0 0
    · exact fault_book (r := { r with hit := true }) ⟨h.book.good, h.book.a, h.book.b⟩ _ _ _
  have e : (faultR r kind a b).wild = r.wild ∧ (faultR r kind a b).ok = r.ok ∧ (faultR r kind a b).fits = r.fits ∧ (faultR r kind a b).token = r.token ∧ (faultR r kind a b).fresh = r.fresh ∧ (faultR r kind a b).calm = r.calm ∧ (faultR r kind a b).a = r.a ∧ (faultR r kind a b).b = r.b := by
    unfold faultR
    split <;> exact ⟨rfl, rfl, rfl, rfl, rfl, rfl, rfl, rfl⟩
  obtain ⟨e1, e2, e3, e4, e5, e6, e7, e8⟩ := e
  exact ⟨hb, e1.trans h.w, fun z => fault_inv (h.inv z) kind a b, e2.trans h.ok, e3.trans h.fits, fun z => e4.trans (h.token z), e5.trans h.fresh, e6.trans h.calm, by rw [e7]; exact h.la, by rw [e8]; exact h.lb⟩
theorem PI.wilded {k : Nat} {r : R} (h : PI true k r) (a b c : Int) : PI true k { r with x := faultL r.x a b c } :=
  ⟨fault_book h.book a b c, h.w, (fun e => by cases e), h.ok, h.fits, (fun e => by cases e), h.fresh, h.calm, h.la, h.lb⟩

/-- A new run. -/
def newR (c : Cfg) (wild : Bool) : R := ⟨newL c, ⟨[], 0, false, 0⟩, ⟨[], 0, false, 0⟩, false, wild, false, true, true, true, true⟩
theorem dir_new (c : Cfg) : Dir c newS newS .nil .nil false := ⟨by simp [newS], fun _ => rfl, fun e => by simp [newS] at e, fun e => by simp [newS] at e⟩
theorem PI.new {c : Cfg} (hc : c.Ok) (wild : Bool) : PI wild 0 (newR c wild) := by
  have hb : Book (newR c wild) := ⟨LGood.new hc, ⟨rfl, Nat.le_refl _, rfl, by simp [newR]⟩, ⟨rfl, Nat.le_refl _, rfl, by simp [newR]⟩⟩
  refine ⟨hb, rfl, fun e => ⟨hb, e, .nil, .nil, ?_⟩, rfl, rfl, fun _ => rfl, rfl, rfl, Nat.le_refl _, Nat.le_refl _⟩
  have hm : May .nil (hear c []) := hear_nil c
  exact ⟨tok_new c, dir_new c, dir_new c, trivial, trivial, fun _ => rfl, fun _ => rfl, hm, hm, fun _ => Or.inr rfl, fun _ => Or.inr rfl, fun e => absurd rfl e⟩

/-- Settle: nobody is busy any more. -/
def calmR (r : R) : R := { r with x := busyL (busyL r.x 0 false) 1 false, calm := true, a := { r.a with mark := r.a.told }, b := { r.b with mark := r.b.told } }
theorem calm_cal {r : R} (h : Inv r) : Cal (calmR r) := by
  have h2 := busy_inv (busy_inv h 0 false) 1 false
  obtain ⟨p0, p1, hp⟩ := h2.pts
  refine ⟨⟨⟨h2.book.good, ⟨h2.book.a.q, h2.book.a.t, h2.book.a.j, h2.book.a.f⟩, ⟨h2.book.b.q, h2.book.b.t, h2.book.b.j, h2.book.b.f⟩⟩, h.nw, p0, p1, hp⟩, ?_, ?_⟩
  · simp [calmR, busyL]
  · simp [calmR, busyL]

end Go.Proofs.YtlbpjcphhocdkabGreatDoor
