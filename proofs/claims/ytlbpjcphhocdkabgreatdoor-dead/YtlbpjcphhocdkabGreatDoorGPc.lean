/-Plain: the calm: behind the last message there is silence; and the line on which nothing is heard. Plain: a line on which nothing comes over any more: a station by itself. Plain: a run without faults, from the first tick on: the stations take turns. Plain: what a tick does to a run of the harness: its events are as they must be, its books stay right. Plain: what holds of a run, whatever is played: one speaks, what is delivered is the message under way. Plain: the calm: all messages are told of within the bound; no young one fails; then there is silence. -/
import Derived.Test.YtlbpjcphhocdkabGreatDoorGPb
namespace Go.Proofs.YtlbpjcphhocdkabGreatDoor.Mod

/-- Nobody has a message any more. -/
structure Sil (D : Nat) (s0 s1 : Stn) : Prop where
  q0 : s0.queue = []
  q1 : s1.queue = []
  d0 : s0.mode = 3 → s0.due ≤ D
  d1 : s1.mode = 3 → s1.due ≤ D

theorem sil_modes {c : Cfg} {now i : Nat} {s : Stn} {p : Put} (hs : StOk c now i s p) (hq : s.queue = []) : s.mode = 0 ∨ s.mode = 3 := by
  have z := hs.mode
  have := hs.que
  rcases (show s.mode = 0 ∨ s.mode = 1 ∨ s.mode = 2 ∨ s.mode = 3 by omega) with m | m | m | m
  · exact Or.inl m
  · exact absurd hq (this (Or.inl m))
  · exact absurd hq (this (Or.inr m))
  · exact Or.inr m

theorem sil_one {c : Cfg} {now i D : Nat} {s : Stn} {p : Put} {h : Ans} (hs : StOk c now i s p) (hq : s.queue = []) (hd : s.mode = 3 → s.due ≤ D) (hk : kindOf h = 0 ∨ kindOf h = 5 ∨ kindOf h = 6 ∨ kindOf h = 7 ∨ kindOf h = 8 ∨ kindOf h = 9) :
    (one c (now + 1) i s h).1.queue = [] ∧ (one c (now + 1) i s h).2.1 = .nil ∧ (one c (now + 1) i s h).2.2 = none ∧ ((one c (now + 1) i s h).1.mode = 3 → (one c (now + 1) i s h).1.due ≤ D) ∧ (s.mode = 0 → (one c (now + 1) i s h).1.mode = 0) := by
  rcases sil_modes hs hq with m | m
  · rcases idle_out (c := c) (T := now + 1) (i := i) (h := h) m with ⟨k, _⟩ | ⟨_, q, _⟩ | ⟨_, _, e⟩
    · omega
    · exact absurd hq q
    · rw [e]; exact ⟨hq, rfl, rfl, hd, fun _ => m⟩
  · rcases rcv_out (c := c) (T := now + 1) (i := i) (h := h) m with ⟨b, e, _⟩ | ⟨e, _⟩ | ⟨e, _⟩ | ⟨e, _⟩ | ⟨_, e⟩ | ⟨_, _, ⟨_, e⟩ | ⟨_, e⟩⟩
    · rw [e] at hk; simp [kindOf] at hk
    · rw [e] at hk; simp [kindOf] at hk
    · rw [e] at hk; simp [kindOf] at hk
    · rw [e] at hk; simp [kindOf] at hk
    · rw [e]; exact ⟨hq, rfl, rfl, (fun h => by simp at h), fun _ => rfl⟩
    · rw [e]; exact ⟨hq, rfl, rfl, (fun h => by simp at h), fun _ => rfl⟩
    · rw [e]; exact ⟨hq, rfl, rfl, hd, fun h => by omega⟩

theorem sil_step {c : Cfg} {now D : Nat} {s0 s1 : Stn} {p0 p1 : Put} (h : Tok c now s0 s1 p0 p1) (g : Sil D s0 s1) :
    Sil D (one c (now + 1) 0 s0 (hE p0 p1)).1 (one c (now + 1) 1 s1 (hE p1 p0)).1 ∧ (one c (now + 1) 0 s0 (hE p0 p1)).2.1 = .nil ∧ (one c (now + 1) 1 s1 (hE p1 p0)).2.1 = .nil ∧ (one c (now + 1) 0 s0 (hE p0 p1)).2.2 = none ∧ (one c (now + 1) 1 s1 (hE p1 p0)).2.2 = none := by
  have a := sil_one (h := hE p0 p1) h.a g.q0 g.d0 (kind_rest h.b (sil_modes h.b g.q1))
  have b := sil_one (h := hE p1 p0) h.b g.q1 g.d1 (kind_rest h.a (sil_modes h.a g.q0))
  exact ⟨⟨a.1, b.1, a.2.2.2.1, b.2.2.2.1⟩, a.2.1, b.2.1, a.2.2.1, b.2.2.1⟩
/-- Behind the wait both are Idle. -/
theorem sil_idle {c : Cfg} {now D : Nat} {s0 s1 : Stn} {p0 p1 : Put} (h : Tok c now s0 s1 p0 p1) (g : Sil D s0 s1) (hD : D ≤ now) : s0.mode = 0 ∧ s1.mode = 0 := by
  refine ⟨?_, ?_⟩
  · rcases sil_modes h.a g.q0 with m | m
    · exact m
    · have := h.a.rcv m; have := g.d0 m; omega
  · rcases sil_modes h.b g.q1 with m | m
    · exact m
    · have := h.b.rcv m; have := g.d1 m; omega
end Go.Proofs.YtlbpjcphhocdkabGreatDoor.Mod

namespace Go.Proofs.YtlbpjcphhocdkabGreatDoor.Mod

def guP (R : Nat) (c : Cfg) (s : Stn) : Nat := s.due + R * ((if s.free then 1 else 0) + (c.tries + 1 - s.tries))
theorem guP_ge (R : Nat) (c : Cfg) (s : Stn) : s.due ≤ guP R c s := by unfold guP; omega
theorem guP_free (R : Nat) (c : Cfg) (s : Stn) (h : s.free = true) (T : Nat) (hT : T = s.due) : guP R c { s with free := false, due := T + R } = guP R c s := by
  subst hT
  unfold guP
  simp only [h, if_true, Bool.false_eq_true, if_false, Nat.zero_add, Nat.mul_add, Nat.mul_one]
  omega
theorem guP_try (R : Nat) (c : Cfg) (s : Stn) (h : s.free = false) (ht : s.tries ≤ c.tries) (T : Nat) (hT : T = s.due) : guP R c { s with tries := s.tries + 1, free := false, due := T + R } = guP R c s := by
  subst hT
  unfold guP
  simp only [h, Bool.false_eq_true, if_false, Nat.zero_add]
  have : c.tries + 1 - s.tries = (c.tries + 1 - (s.tries + 1)) + 1 := by omega
  rw [this, Nat.mul_add, Nat.mul_one]
  omega

/-- How long a message's bids take that are all in vain; and with the rest behind them. -/
def vain (c : Cfg) (i : Nat) : Nat := patience c i 1 * (c.tries + 1)
def cyc (c : Cfg) (i : Nat) : Nat := vain c i + 3
def wait0 (now : Nat) (s : Stn) : Nat := max (s.rest - now) 1
/-- Within as many ticks all messages of a station have failed that hears nothing. -/
def tau (c : Cfg) (now i : Nat) (s : Stn) : Nat :=
  if s.queue = [] then 0
  else (if s.mode = 1 then guP (patience c i 1) c s - now else if s.mode = 2 then guP c.reply c s - now else if s.mode = 3 then (s.due - now) + wait0 now s + vain c i else wait0 now s + vain c i) + (s.queue.length - 1) * cyc c i

/-- What a station does that hears nothing: it stays, asks or bids again, its message fails, it stops receiving, or it bids. -/
theorem dead_out {c : Cfg} {T i : Nat} {s : Stn} (hz : s.mode ≤ 3) :
    ((s.mode = 1 ∨ s.mode = 2) ∧ T = s.due ∧ s.free = false ∧ s.tries > c.tries ∧ one c T i s (.none 0) = ends T i s 3)
    ∨ ((s.mode = 1 ∨ s.mode = 2) ∧ T = s.due ∧ ¬ (s.free = false ∧ s.tries > c.tries) ∧ one c T i s (.none 0) = ({ s with tries := (if s.free then s.tries else s.tries + 1), free := false, due := T + patience c i s.mode }, .short (if s.mode = 2 then 4 else 3), none))
    ∨ (s.mode = 3 ∧ T = s.due ∧ one c T i s (.none 0) = ({ s with mode := 0, got := [] }, .nil, none))
    ∨ (s.mode ≠ 0 ∧ T ≠ s.due ∧ one c T i s (.none 0) = (s, .nil, none))
    ∨ (s.mode = 0 ∧ s.queue ≠ [] ∧ s.rest ≤ T ∧ one c T i s (.none 0) = bids c T i s)
    ∨ (s.mode = 0 ∧ (s.queue = [] ∨ T < s.rest) ∧ one c T i s (.none 0) = (s, .nil, none)) := by
  rcases (show s.mode = 0 ∨ s.mode = 1 ∨ s.mode = 2 ∨ s.mode = 3 by omega) with m | m | m | m
  · rcases idle_out (c := c) (T := T) (i := i) (h := .none 0) m with ⟨k, _⟩ | ⟨_, q, r, e⟩ | ⟨_, q, e⟩
    · exact absurd k (by decide)
    · right; right; right; right; left; exact ⟨m, q, r, e⟩
    · right; right; right; right; right; exact ⟨m, q, e⟩
  · rcases bid_out (c := c) (T := T) (i := i) (h := .none 0) m with ⟨k, _⟩ | ⟨k, _⟩ | ⟨k, _⟩ | ⟨_, _, _, ⟨hx, e⟩ | ⟨hx, e⟩⟩
    · exact absurd k (by decide)
    · exact absurd k (by decide)
    · exact absurd k (by decide)
    · by_cases ho : s.free = false ∧ s.tries > c.tries
      · left
        refine ⟨Or.inl m, hx, ho.1, ho.2, ?_⟩
        rw [e]; unfold over; rw [if_neg (by omega), if_pos ho]
      · right; left
        refine ⟨Or.inl m, hx, ho, ?_⟩
        rw [e]; unfold over; rw [if_neg (by omega), if_neg ho]
    · right; right; right; left; exact ⟨by omega, hx, e⟩
  · have y := yes_or (s.block + 1)
    rcases snd_out (c := c) (T := T) (i := i) (h := .none 0) m with ⟨k, _⟩ | ⟨k, _⟩ | ⟨_, k, _⟩ | ⟨k, _⟩ | ⟨_, ⟨hx, e⟩ | ⟨hx, e⟩⟩
    · simp [kindOf] at k; omega
    · simp [kindOf] at k; omega
    · exact absurd k (by decide)
    · exact absurd k (by decide)
    · by_cases ho : s.free = false ∧ s.tries > c.tries
      · left
        refine ⟨Or.inr m, hx, ho.1, ho.2, ?_⟩
        rw [e]; unfold over; rw [if_neg (by omega), if_pos ho]
      · right; left
        refine ⟨Or.inr m, hx, ho, ?_⟩
        rw [e]; unfold over; rw [if_neg (by omega), if_neg ho]
    · right; right; right; left; exact ⟨by omega, hx, e⟩
  · by_cases hx : T = s.due
    · right; right; left
      refine ⟨m, hx, ?_⟩
      rcases rcv_out (c := c) (T := T) (i := i) (h := .none 0) m with ⟨b, e, _⟩ | ⟨e, _⟩ | ⟨e, _⟩ | ⟨e, _⟩ | ⟨e, _⟩ | ⟨_, _, ⟨_, e⟩ | ⟨h, _⟩⟩
      · cases e
      · simp at e
      · simp at e
      · simp at e
      · simp at e
      · exact e
      · exact absurd hx h
    · right; right; right; left
      exact ⟨by omega, hx, one_still (Or.inr (Or.inr m)) hx⟩

theorem tau_fall {c : Cfg} {now i : Nat} {s : Stn} {p : Put} (hs : StOk c now i s p) (hq : s.queue ≠ []) : tau c (now + 1) i (one c (now + 1) i s (.none 0)).1 + 1 ≤ tau c now i s := by
  have hlen : 1 ≤ s.queue.length := by
    cases h : s.queue with
    | nil => exact absurd h hq
    | cons a l => simp
  have z := hs.mode
  have failed : ∀ base, 1 ≤ base → tau c (now + 1) i (ends (now + 1) i s 3).1 + 1 ≤ base + (s.queue.length - 1) * cyc c i := by
    intro base hb
    unfold tau
    by_cases ht : (ends (now + 1) i s 3).1.queue = []
    · rw [if_pos ht]
      omega
    · rw [if_neg ht]
      have h2 : 2 ≤ s.queue.length := by
        have e : (ends (now + 1) i s 3).1.queue = s.queue.tail := rfl
        rw [e] at ht
        cases h : s.queue with
        | nil => exact absurd h hq
        | cons a l =>
          cases l with
          | nil => rw [h] at ht; exact absurd rfl ht
          | cons b l => simp
      have e1 : (ends (now + 1) i s 3).1.queue.length = s.queue.length - 1 := by show s.queue.tail.length = _; simp
      have e2 : (ends (now + 1) i s 3).1.mode = 0 := rfl
      have e3 : wait0 (now + 1) (ends (now + 1) i s 3).1 = 3 := by
        show max (now + 1 + 3 - (now + 1)) 1 = 3
        omega
      rw [e1, e2, if_neg (by decide), if_neg (by decide), if_neg (by decide), e3]
      have e4 : (s.queue.length - 1) * cyc c i = (s.queue.length - 1 - 1) * cyc c i + cyc c i := by
        rw [← Nat.succ_mul]
        congr 1
        omega
      rw [e4]
      unfold cyc
      omega
  rcases dead_out (c := c) (T := now + 1) (i := i) z with ⟨m, hx, hf, ht, e⟩ | ⟨m, hx, ho, e⟩ | ⟨m, hx, e⟩ | ⟨m, hx, e⟩ | ⟨m, _, hr, e⟩ | ⟨m, hr, e⟩
  · rw [e]
    have g1 := guP_ge (patience c i 1) c s
    have g2 := guP_ge c.reply c s
    have hE : tau c now i s = (if s.mode = 1 then guP (patience c i 1) c s - now else if s.mode = 2 then guP c.reply c s - now else if s.mode = 3 then (s.due - now) + wait0 now s + vain c i else wait0 now s + vain c i) + (s.queue.length - 1) * cyc c i := by unfold tau; rw [if_neg hq]
    rw [hE]
    refine failed _ ?_
    rcases m with m | m
    · rw [if_pos m]; omega
    · rw [if_neg (by omega), if_pos m]; omega
  · rw [e]
    have tr : s.free = true ∨ (s.free = false ∧ s.tries ≤ c.tries) := by
      cases hf : s.free
      · right
        refine ⟨rfl, ?_⟩
        rcases Nat.lt_or_ge c.tries s.tries with h | h
        · exact absurd ⟨hf, h⟩ ho
        · exact h
      · exact Or.inl rfl
    have gg : ∀ R, patience c i s.mode = R → guP R c { s with tries := (if s.free then s.tries else s.tries + 1), free := false, due := now + 1 + patience c i s.mode } = guP R c s := by
      intro R hR
      rw [hR]
      rcases tr with h | ⟨h, ht⟩
      · have := guP_free R c s h (now + 1) hx
        simpa [h] using this
      · have := guP_try R c s h ht (now + 1) hx
        simpa [h] using this
    unfold tau
    rw [if_neg hq, if_neg hq]
    simp only
    rcases m with m | m
    · have g1 := guP_ge (patience c i 1) c s
      rw [if_pos m, if_pos m, gg (patience c i 1) (by rw [m])]
      omega
    · have g2 := guP_ge c.reply c s
      rw [if_neg (show ¬ s.mode = 1 by omega), if_pos m, if_neg (show ¬ s.mode = 1 by omega), if_pos m, gg c.reply (by rw [m]; rfl)]
      omega
  · rw [e]
    unfold tau
    rw [if_neg hq, if_neg hq]
    simp only
    rw [if_neg (by omega), if_neg (by omega), if_neg (by omega), if_neg (by omega), if_neg (by omega), if_pos m]
    have : wait0 (now + 1) { s with mode := 0, got := [] } ≤ wait0 now s := by
      show max (s.rest - (now + 1)) 1 ≤ max (s.rest - now) 1
      omega
    omega
  · rw [e]
    unfold tau
    rw [if_neg hq, if_neg hq]
    simp only
    rcases (show s.mode = 1 ∨ s.mode = 2 ∨ s.mode = 3 by omega) with m1 | m1 | m1
    · have g1 := guP_ge (patience c i 1) c s
      have := hs.bid m1
      rw [if_pos m1, if_pos m1]
      omega
    · have g2 := guP_ge c.reply c s
      have := hs.snd m1
      rw [if_neg (by omega), if_pos m1, if_neg (by omega), if_pos m1]
      omega
    · have := hs.rcv m1
      rw [if_neg (by omega), if_neg (by omega), if_pos m1, if_neg (by omega), if_neg (by omega), if_pos m1]
      have : wait0 (now + 1) s ≤ wait0 now s := by
        show max (s.rest - (now + 1)) 1 ≤ max (s.rest - now) 1
        omega
      omega
  · rw [e]
    have eb : guP (patience c i 1) c (bids c (now + 1) i s).1 = now + 1 + vain c i := by
      unfold guP bids vain
      simp only [Bool.false_eq_true, if_false, Nat.zero_add]
      have : c.tries + 1 - 1 = c.tries := by omega
      rw [this, Nat.mul_add, Nat.mul_one]
      omega
    have hw : 1 ≤ wait0 now s := Nat.le_max_right _ _
    unfold tau
    rw [if_neg hq, if_neg (show ¬ (bids c (now + 1) i s).1.queue = [] from hq), if_pos (show (bids c (now + 1) i s).1.mode = 1 from rfl), eb, if_neg (by omega), if_neg (by omega), if_neg (by omega)]
    show now + 1 + vain c i - (now + 1) + (s.queue.length - 1) * cyc c i + 1 ≤ _
    omega
  · rw [e]
    have hr' : now + 1 < s.rest := by
      rcases hr with h | h
      · exact absurd h hq
      · exact h
    unfold tau
    rw [if_neg hq, if_neg hq]
    simp only
    rw [if_neg (by omega), if_neg (by omega), if_neg (by omega), if_neg (by omega), if_neg (by omega), if_neg (by omega)]
    have : wait0 (now + 1) s + 1 ≤ wait0 now s := by
      show max (s.rest - (now + 1)) 1 + 1 ≤ max (s.rest - now) 1
      omega
    omega

def turnD (c : Cfg) : Nat := (c.tries + 3) * (c.second + c.reply) + 8
theorem tau_le {c : Cfg} {now i : Nat} {s : Stn} {p : Put} (hc : c.Ok) (hs : StOk c now i s p) (hr : s.rest ≤ now + 3) : tau c now i s ≤ c.lost + (s.queue.length + 1) * turnD c := by
  have f := hc.first
  have sc := hc.second
  have z := hs.mode
  have hP : patience c i 1 ≤ c.second := by
    unfold patience
    rw [if_neg (by decide), if_neg (by decide)]
    split <;> omega
  have e1 : (c.tries + 3) * (c.second + c.reply) = (c.tries + 3) * c.second + (c.tries + 3) * c.reply := Nat.mul_add _ _ _
  have hv : vain c i ≤ (c.tries + 3) * c.second := by
    unfold vain
    rw [Nat.mul_comm]
    exact Nat.mul_le_mul (by omega) hP
  have hcy : cyc c i ≤ turnD c := by unfold cyc turnD; omega
  have hmul : (s.queue.length - 1) * cyc c i ≤ (s.queue.length - 1) * turnD c := Nat.mul_le_mul_left _ hcy
  have hn : (s.queue.length - 1) * turnD c + turnD c ≤ (s.queue.length + 1) * turnD c := by
    rw [← Nat.succ_mul]
    exact Nat.mul_le_mul_right _ (by omega)
  have gb : ∀ R, 1 ≤ s.tries → s.due ≤ now + R → guP R c s ≤ now + (c.tries + 2) * R := by
    intro R h1 h2
    unfold guP
    have : (if s.free then 1 else 0) + (c.tries + 1 - s.tries) ≤ c.tries + 1 := by split <;> omega
    have := Nat.mul_le_mul_left R this
    have e : (c.tries + 2) * R = R * (c.tries + 1) + R := by rw [Nat.mul_comm, ← Nat.mul_succ]
    omega
  have hw : wait0 now s ≤ 3 := by
    show max (s.rest - now) 1 ≤ 3
    omega
  unfold tau
  split
  · omega
  · have key : (if s.mode = 1 then guP (patience c i 1) c s - now else if s.mode = 2 then guP c.reply c s - now else if s.mode = 3 then (s.due - now) + wait0 now s + vain c i else wait0 now s + vain c i) ≤ c.lost + turnD c := by
      rcases (show s.mode = 0 ∨ s.mode = 1 ∨ s.mode = 2 ∨ s.mode = 3 by omega) with m | m | m | m
      · rw [if_neg (by omega), if_neg (by omega), if_neg (by omega)]
        unfold turnD
        omega
      · have hb := hs.bid m
        have := gb (patience c i 1) hb.2.2.1 hb.2.1
        have : (c.tries + 2) * patience c i 1 ≤ (c.tries + 3) * c.second := Nat.mul_le_mul (by omega) hP
        rw [if_pos m]
        unfold turnD
        omega
      · have hb := hs.snd m
        have := gb c.reply hb.2.2.1 hb.2.1
        have : (c.tries + 2) * c.reply ≤ (c.tries + 3) * c.reply := Nat.mul_le_mul_right _ (by omega)
        rw [if_neg (by omega), if_pos m]
        unfold turnD
        omega
      · have hb := hs.rcv m
        rw [if_neg (by omega), if_neg (by omega), if_pos m]
        unfold turnD
        omega
    omega

/-- How often a station has bid since its last message was told of, on the dead line. -/
def BidsOk (s : Stn) (bids toldN : Nat) : Prop := toldN = 0 ∨ (s.mode = 0 ∧ bids = 0) ∨ (s.mode = 1 ∧ s.free = false ∧ bids = s.tries)
def isBid (p : Put) : Nat := if p = .short 3 then 1 else 0

theorem bids_step {c : Cfg} {now i : Nat} {s : Stn} {p : Put} {b n : Nat} (hs : StOk c now i s p) (h : BidsOk s b n) :
    ((one c (now + 1) i s (.none 0)).2.2 = none ∧ BidsOk (one c (now + 1) i s (.none 0)).1 (b + isBid (one c (now + 1) i s (.none 0)).2.1) n)
    ∨ (∃ e, (one c (now + 1) i s (.none 0)).2.2 = some e ∧ e.kind = 3 ∧ e.station = i ∧ e.number = s.joined - s.queue.length + 1 ∧ e.msg = noMsg ∧ (n = 0 ∨ b = c.tries + 1) ∧ BidsOk (one c (now + 1) i s (.none 0)).1 (isBid (one c (now + 1) i s (.none 0)).2.1) (n + 1)) := by
  rcases dead_out (c := c) (T := now + 1) (i := i) hs.mode with ⟨m, hx, hf, ht, e⟩ | ⟨m, hx, ho, e⟩ | ⟨m, hx, e⟩ | ⟨m, hx, e⟩ | ⟨m, _, hr, e⟩ | ⟨m, hr, e⟩
  · right
    rw [e]
    refine ⟨_, rfl, rfl, rfl, rfl, rfl, ?_, Or.inr (Or.inl ⟨rfl, ?_⟩)⟩
    · rcases h with h | ⟨h, _⟩ | ⟨m1, _, h⟩
      · exact Or.inl h
      · omega
      · right
        have := hs.bid m1
        omega
    · unfold isBid ends
      simp only
      split <;> rfl
  · left
    rw [e]
    refine ⟨rfl, ?_⟩
    rcases h with h | ⟨h, _⟩ | ⟨m1, hf, h⟩
    · exact Or.inl h
    · omega
    · right; right
      refine ⟨m1, rfl, ?_⟩
      simp [isBid, m1, hf, h]
  · left
    rw [e]
    refine ⟨rfl, ?_⟩
    rcases h with h | ⟨h, _⟩ | ⟨m1, _, _⟩
    · exact Or.inl h
    · omega
    · omega
  · left
    rw [e]
    refine ⟨rfl, ?_⟩
    have : isBid Put.nil = 0 := rfl
    rw [this, Nat.add_zero]
    exact h
  · left
    rw [e]
    refine ⟨rfl, ?_⟩
    rcases h with h | ⟨_, h⟩ | ⟨m1, _, _⟩
    · exact Or.inl h
    · right; right
      refine ⟨rfl, rfl, ?_⟩
      rw [h]
      rfl
    · omega
  · left
    rw [e]
    refine ⟨rfl, ?_⟩
    have : isBid Put.nil = 0 := rfl
    rw [this, Nat.add_zero]
    exact h
end Go.Proofs.YtlbpjcphhocdkabGreatDoor.Mod

namespace Go.Proofs.YtlbpjcphhocdkabGreatDoor.Mod

/-- Where a run without faults stands; d: station 0 has told of one message more than station 1. -/
inductive Ph (now : Nat) (s0 s1 : Stn) (p0 p1 : Put) : Nat → Prop
  | start (a : s0.mode = 0) (b : s1.mode = 0) (c : s0.rest ≤ now + 1) (d : s1.rest ≤ now + 1) (e : p0 = .nil) (f : p1 = .nil) : Ph now s0 s1 p0 p1 0
  | both (a : s0.mode = 1) (b : s1.mode = 1) (c : s0.rest ≤ now) (d : s1.rest ≤ now) (e : (p0 = .short 3 ∧ p1 = .short 3) ∨ (p0 = .nil ∧ p1 = .nil ∧ s0.due < s1.due)) : Ph now s0 s1 p0 p1 0
  | bid0 (a : s0.mode = 1) (b : s1.mode = 0 ∨ s1.mode = 1) (d : s1.rest ≤ now + 1) (e : p0 = .short 3) (f : p1 = .nil) : Ph now s0 s1 p0 p1 0
  | yes0 (a : s0.mode = 1) (b : s1.mode = 3) (d : s1.rest ≤ now) (e : p1 = .short 7) (f : p0 = .nil) : Ph now s0 s1 p0 p1 0
  | snd0 (a : s0.mode = 2) (d : s1.rest ≤ now) : Ph now s0 s1 p0 p1 0
  | end0 (a : s0.mode = 0) (b : s1.mode = 3) (c : s0.rest = now + 3) (d : s1.rest ≤ now) (e : p0 = .short 5) (f : p1 = .nil) : Ph now s0 s1 p0 p1 1
  | gap0 (a : s0.mode = 0) (b : s1.mode = 0) (c : s0.rest = now + 2) (d : s1.rest ≤ now) (e : p0 = .nil) (f : p1 = .nil) : Ph now s0 s1 p0 p1 1
  | bid1 (a : s1.mode = 1) (b : s0.mode = 0) (d : s0.rest ≤ now + 1) (e : p1 = .short 3) (f : p0 = .nil) : Ph now s0 s1 p0 p1 1
  | yes1 (a : s1.mode = 1) (b : s0.mode = 3) (d : s0.rest ≤ now) (e : p0 = .short 7) (f : p1 = .nil) : Ph now s0 s1 p0 p1 1
  | snd1 (a : s1.mode = 2) (d : s0.rest ≤ now) : Ph now s0 s1 p0 p1 1
  | end1 (a : s1.mode = 0) (b : s0.mode = 3) (c : s1.rest = now + 3) (d : s0.rest ≤ now) (e : p1 = .short 5) (f : p0 = .nil) : Ph now s0 s1 p0 p1 0
  | gap1 (a : s1.mode = 0) (b : s0.mode = 0) (c : s1.rest = now + 2) (d : s0.rest ≤ now) (e : p1 = .nil) (f : p0 = .nil) : Ph now s0 s1 p0 p1 0

/-- A sender whose attempt began in the calm: its message is Sent, or it goes on. -/
theorem ys_out {c : Cfg} {now i j : Nat} {s t : Stn} {p q : Put} (hc : c.Ok) (hs : StOk c now i s p) (hk : Kept c s t) (hm : s.mode = 2) (hy : YS s p q) :
    ((one c (now + 1) i s (hE p q)).1.mode = 2 ∧ (one c (now + 1) i s (hE p q)).2.2 = none)
    ∨ (one c (now + 1) i s (hE p q) = ends (now + 1) i s 2 ∧ t.mode = 3 ∧ one c (now + 1) j t (hE q p) = (t, .nil, none)) := by
  obtain ⟨m3, hgu⟩ := hk hm
  have y := yes_or (s.block + 1)
  have g1 := gu_ge c s
  have hb := hs.snd hm
  obtain ⟨ht1, ⟨b, hp⟩ | ⟨hp, hq⟩⟩ := hy
  · subst hp
    left
    rw [snd_rest hc hs hm (by simp) (hE_hears _ _)]
    exact ⟨hm, rfl⟩
  · subst hp
    have et : one c (now + 1) j t (hE q .nil) = (t, .nil, none) := by rw [hE_of_nil]; exact one_still (Or.inr (Or.inr m3)) (by omega)
    rw [hE_nil, hq]
    rcases snd_out (c := c) (T := now + 1) (i := i) (h := exact' (.short (yesN (s.block + 1)))) hm with ⟨_, _, e⟩ | ⟨_, _, e⟩ | ⟨k, _⟩ | ⟨k, _⟩ | ⟨k, _⟩
    · right
      rw [hq] at et
      exact ⟨e, m3, et⟩
    · left; rw [e]; exact ⟨hm, rfl⟩
    · exact absurd rfl k
    · have : yesN (s.block + 1) = 9 := k
      omega
    · exact absurd (show yesN (s.block + 1) = 6 ∨ yesN (s.block + 1) = 7 ∨ yesN (s.block + 1) = 8 ∨ yesN (s.block + 1) = 9 by omega) k

theorem not_told_none {s : Stn} {p : Put} : ¬ told (s, p, none) := by rintro ⟨e, h, _⟩; cases h
theorem rest_not_told {c : Cfg} {T i : Nat} {s : Stn} {h : Ans} (hm : s.mode = 0 ∨ s.mode = 3) : ¬ told (one c T i s h) := by
  rintro ⟨e, he, hk⟩
  rcases ev_cases (c := c) (T := T) (i := i) (s := s) (h := h) with ⟨x, _⟩ | ⟨_, x, _⟩ | ⟨k, _, _, hmm, _⟩
  · rw [x] at he; cases he
  · rw [x] at he; simp at he; rw [← he] at hk; simp at hk
  · omega
theorem bid_sil {c : Cfg} {now i : Nat} {s : Stn} (hm : s.mode = 1) (hd : now + 1 ≠ s.due) : one c (now + 1) i s (.none 0) = (s, .nil, none) := one_still (Or.inl hm) hd
theorem idle_bids {c : Cfg} {now i : Nat} {s : Stn} (hm : s.mode = 0) (hq : s.queue ≠ []) (hr : s.rest ≤ now + 1) : one c (now + 1) i s (.none 0) = bids c (now + 1) i s := by
  rcases idle_out (c := c) (T := now + 1) (i := i) (h := .none 0) hm with ⟨k, _⟩ | ⟨_, _, _, e⟩ | ⟨_, h, _⟩
  · exact absurd k (by decide)
  · exact e
  · rcases h with h | h
    · exact absurd h hq
    · omega
theorem idle_rests {c : Cfg} {now i : Nat} {s : Stn} {h : Ans} (hm : s.mode = 0) (hk : kindOf h ≠ 3) (hr : s.queue = [] ∨ now + 1 < s.rest) : one c (now + 1) i s h = (s, .nil, none) := by
  rcases idle_out (c := c) (T := now + 1) (i := i) (h := h) hm with ⟨k, _⟩ | ⟨_, hq, h, _⟩ | ⟨_, _, e⟩
  · exact absurd k hk
  · rcases hr with r | r
    · exact absurd r hq
    · omega
  · exact e
theorem rcv_end {c : Cfg} {T i : Nat} {s : Stn} (hm : s.mode = 3) : one c T i s (.none 5) = ({ s with mode := 0, got := [] }, .nil, none) := by
  unfold one named
  rw [if_neg (by omega), if_neg (by omega), if_pos hm]
  rfl
theorem answers_not {c : Cfg} {T i : Nat} {s : Stn} (hb : s.busy = false) (hm : s.mode = 0 ∨ s.mode = 3 ∨ (s.mode = 1 ∧ i = 1)) : ¬ told (one c T i s (.none 3)) ∧ (one c T i s (.none 3)).1.rest = s.rest := by
  have ea : one c T i s (.none 3) = answers c T s := by
    rcases hm with h | h | ⟨h, h1⟩
    · unfold one named
      rw [if_neg (by omega), if_neg (by omega), if_neg (by omega)]
      rfl
    · unfold one named
      rw [if_neg (by omega), if_neg (by omega), if_pos h]
      rfl
    · unfold one named
      rw [if_pos h]
      unfold bidding
      rw [if_neg (show ¬ kindOf (.none 3) = 7 by decide), if_neg (show ¬ kindOf (.none 3) = 9 by decide), if_pos ⟨rfl, h1⟩]
  rw [ea]
  unfold answers
  rw [hb]
  exact ⟨not_told_none, rfl⟩
theorem rest_same3 {c : Cfg} {now i : Nat} {s : Stn} {h : Ans} (hm : s.mode = 3) : (one c (now + 1) i s h).1.rest = s.rest := by
  rcases rcv_out (c := c) (T := now + 1) (i := i) (h := h) hm with ⟨b, _, e⟩ | ⟨_, e⟩ | ⟨_, e⟩ | ⟨_, e⟩ | ⟨_, e⟩ | ⟨_, _, ⟨_, e⟩ | ⟨_, e⟩⟩ <;> rw [e]
  · unfold takes
    split
    · rfl
    · split <;> rfl
  · unfold answers; split <;> rfl

/-- A tick of such a run. -/
theorem ph_step {c : Cfg} {now d : Nat} {s0 s1 : Stn} {p0 p1 : Put} (hc : c.Ok) (h : CalmSt c now s0 s1 p0 p1) (g : Yng s0 s1 p0 p1 true true) (ph : Ph now s0 s1 p0 p1 d)
    (hq0 : d = 0 → s0.queue ≠ [] ∧ s1.queue ≠ []) (hq1 : d = 1 → s1.queue ≠ []) :
    (Ph (now + 1) (one c (now + 1) 0 s0 (hE p0 p1)).1 (one c (now + 1) 1 s1 (hE p1 p0)).1 (one c (now + 1) 0 s0 (hE p0 p1)).2.1 (one c (now + 1) 1 s1 (hE p1 p0)).2.1 d ∧ ¬ told (one c (now + 1) 0 s0 (hE p0 p1)) ∧ ¬ told (one c (now + 1) 1 s1 (hE p1 p0)))
    ∨ (d = 0 ∧ Ph (now + 1) (one c (now + 1) 0 s0 (hE p0 p1)).1 (one c (now + 1) 1 s1 (hE p1 p0)).1 (one c (now + 1) 0 s0 (hE p0 p1)).2.1 (one c (now + 1) 1 s1 (hE p1 p0)).2.1 1 ∧ told (one c (now + 1) 0 s0 (hE p0 p1)) ∧ ¬ told (one c (now + 1) 1 s1 (hE p1 p0)))
    ∨ (d = 1 ∧ Ph (now + 1) (one c (now + 1) 0 s0 (hE p0 p1)).1 (one c (now + 1) 1 s1 (hE p1 p0)).1 (one c (now + 1) 0 s0 (hE p0 p1)).2.1 (one c (now + 1) 1 s1 (hE p1 p0)).2.1 0 ∧ ¬ told (one c (now + 1) 0 s0 (hE p0 p1)) ∧ told (one c (now + 1) 1 s1 (hE p1 p0))) := by
  have f := hc.first
  have sc := hc.second
  have e0 : patience c 0 1 = c.first := rfl
  have e1 : patience c 1 1 = c.second := rfl
  cases ph with
  | start a b c' d' e f' =>
    left
    obtain ⟨x0, x1⟩ := hq0 rfl
    subst e f'
    rw [hE_nil, show exact' .nil = Ans.none 0 from rfl, idle_bids a x0 c', idle_bids b x1 d']
    exact ⟨.both rfl rfl c' d' (Or.inl ⟨rfl, rfl⟩), not_told_none, not_told_none⟩
  | both a b c' d' e =>
    left
    rcases e with ⟨rfl, rfl⟩ | ⟨rfl, rfl, hdd⟩
    · have q0 : s0.due = now + c.first := by
        rcases (put_of h.tok.a).1 a with r | r
        · cases r
        · exact r.2
      have q1 : s1.due = now + c.second := by
        rcases (put_of h.tok.b).1 b with r | r
        · cases r
        · exact r.2
      rw [hE_own (by simp), bid_sil a (by omega), bid_sil b (by omega)]
      exact ⟨.both a b (by show s0.rest ≤ now + 1; omega) (by show s1.rest ≤ now + 1; omega) (Or.inr ⟨rfl, rfl, by show s0.due < s1.due; omega⟩), not_told_none, not_told_none⟩
    · have dd := h.tok.a.bid a
      have yb := g.b0 rfl a
      rw [hE_nil, show exact' .nil = Ans.none 0 from rfl, bid_sil b (by omega)]
      obtain ⟨hf, ⟨r, _⟩ | ⟨_, r⟩ | ⟨r, _⟩ | ⟨_, _, _, _, ht⟩⟩ := yb
      · cases r
      · cases r
      · cases r
      · rcases bid_out (c := c) (T := now + 1) (i := 0) (h := .none 0) a with ⟨k, _⟩ | ⟨k, _⟩ | ⟨k, _⟩ | ⟨_, _, _, ⟨hx, e⟩ | ⟨hx, e⟩⟩
        · exact absurd k (by decide)
        · exact absurd k (by decide)
        · exact absurd k (by decide)
        · rw [e, over_bid hc a hf ht]
          exact ⟨.bid0 a (Or.inr b) (by show s1.rest ≤ now + 1 + 1; omega) rfl rfl, not_told_none, not_told_none⟩
        · rw [e]
          exact ⟨.both a b (by show s0.rest ≤ now + 1; omega) (by show s1.rest ≤ now + 1; omega) (Or.inr ⟨rfl, rfl, hdd⟩), not_told_none, not_told_none⟩
  | bid0 a b d' e f' =>
    left
    subst e f'
    have q0 : s0.due = now + c.first := by
      rcases (put_of h.tok.a).1 a with r | r
      · cases r
      · exact r.2
    have hb := hears_bid (c := c) (T := now + 1) (i := 1) h.b1 (by omega)
    have ha := answers_not (c := c) (T := now + 1) (i := 1) h.b1 (by omega)
    rw [hE_of_nil, hE_nil, show exact' (.short 3) = Ans.none 3 from rfl, bid_sil a (by omega)]
    exact ⟨.yes0 a hb.1 (by rw [ha.2]; exact d') hb.2.1 rfl, not_told_none, ha.1⟩
  | yes0 a b d' e f' =>
    left
    subst e f'
    have pa := put_answer h.tok.b (Or.inr (Or.inl rfl))
    have p3 := patience_ge hc 0 3
    have e3 : patience c 0 3 = c.lost := rfl
    rw [e3] at p3
    rw [hE_nil, hE_own (by simp), first_blk a (show kindOf (exact' (.short 7)) = 7 from rfl), one_still (c := c) (i := 1) (Or.inr (Or.inr b)) (show now + 1 ≠ s1.due by omega)]
    exact ⟨.snd0 rfl (by show s1.rest ≤ now + 1; omega), not_told_none, not_told_none⟩
  | snd0 a d' =>
    rcases ys_out (j := 1) hc h.tok.a h.tok.k0 a (g.s0' rfl a) with ⟨m2, ev⟩ | ⟨e, m3, et⟩
    · left
      have m3 := (h.tok.k0 a).1
      refine ⟨.snd0 m2 (by rw [rest_same3 m3]; omega), ?_, rest_not_told (Or.inr m3)⟩
      rintro ⟨e, he, _⟩
      rw [ev] at he; cases he
    · right; left
      rw [e, et]
      exact ⟨rfl, .end0 rfl m3 rfl (by show s1.rest ≤ now + 1; omega) (by simp [ends, a]) rfl, told_ends _ _ _ _ (Or.inl rfl), not_told_none⟩
  | end0 a b c' d' e f' =>
    left
    subst e f'
    rw [hE_of_nil, hE_nil, show exact' (.short 5) = Ans.none 5 from rfl, idle_rests a (by decide) (Or.inr (by omega)), rcv_end b]
    exact ⟨.gap0 a rfl (by show s0.rest = now + 1 + 2; omega) (by show s1.rest ≤ now + 1; omega) rfl rfl, not_told_none, not_told_none⟩
  | gap0 a b c' d' e f' =>
    left
    subst e f'
    rw [hE_nil, show exact' .nil = Ans.none 0 from rfl, idle_rests a (by decide) (Or.inr (by omega)), idle_bids b (hq1 rfl) (by omega)]
    exact ⟨.bid1 rfl a (by show s0.rest ≤ now + 1 + 1; omega) rfl rfl, not_told_none, not_told_none⟩
  | bid1 a b d' e f' =>
    left
    subst e f'
    have q1 : s1.due = now + c.second := by
      rcases (put_of h.tok.b).1 a with r | r
      · cases r
      · exact r.2
    have hb := hears_bid (c := c) (T := now + 1) (i := 0) h.b0 (by omega)
    have ha := answers_not (c := c) (T := now + 1) (i := 0) h.b0 (by omega)
    rw [hE_of_nil, hE_nil, show exact' (.short 3) = Ans.none 3 from rfl, bid_sil a (by omega)]
    exact ⟨.yes1 a hb.1 (by rw [ha.2]; exact d') hb.2.1 rfl, ha.1, not_told_none⟩
  | yes1 a b d' e f' =>
    left
    subst e f'
    have pa := put_answer h.tok.a (Or.inr (Or.inl rfl))
    have p3 := patience_ge hc 0 3
    have e3 : patience c 0 3 = c.lost := rfl
    rw [e3] at p3
    rw [hE_nil, hE_own (by simp), first_blk a (show kindOf (exact' (.short 7)) = 7 from rfl), one_still (c := c) (i := 0) (Or.inr (Or.inr b)) (show now + 1 ≠ s0.due by omega)]
    exact ⟨.snd1 rfl (by show s0.rest ≤ now + 1; omega), not_told_none, not_told_none⟩
  | snd1 a d' =>
    rcases ys_out (j := 0) hc h.tok.b h.tok.k1 a (g.s1' rfl a) with ⟨m2, ev⟩ | ⟨e, m3, et⟩
    · left
      have m3 := (h.tok.k1 a).1
      refine ⟨.snd1 m2 (by rw [rest_same3 m3]; omega), rest_not_told (Or.inr m3), ?_⟩
      rintro ⟨e, he, _⟩
      rw [ev] at he; cases he
    · right; right
      rw [e, et]
      exact ⟨rfl, .end1 rfl m3 rfl (by show s0.rest ≤ now + 1; omega) (by simp [ends, a]) rfl, not_told_none, told_ends _ _ _ _ (Or.inl rfl)⟩
  | end1 a b c' d' e f' =>
    left
    subst e f'
    rw [hE_of_nil, hE_nil, show exact' (.short 5) = Ans.none 5 from rfl, idle_rests a (by decide) (Or.inr (by omega)), rcv_end b]
    exact ⟨.gap1 a rfl (by show s1.rest = now + 1 + 2; omega) (by show s0.rest ≤ now + 1; omega) rfl rfl, not_told_none, not_told_none⟩
  | gap1 a b c' d' e f' =>
    left
    subst e f'
    rw [hE_nil, show exact' .nil = Ans.none 0 from rfl, idle_rests a (by decide) (Or.inr (by omega)), idle_bids b (hq0 rfl).1 (by omega)]
    exact ⟨.bid0 rfl (Or.inl a) (by show s1.rest ≤ now + 1 + 1; omega) rfl rfl, not_told_none, not_told_none⟩
end Go.Proofs.YtlbpjcphhocdkabGreatDoor.Mod

namespace Go.Proofs.YtlbpjcphhocdkabGreatDoor.Run
open Go.Proofs.YtlbpjcphhocdkabGreatDoor.Mod Go.Proofs.YtlbpjcphhocdkabGreatDoor.Pst
set_option linter.unusedSimpArgs false

noncomputable def tkR (r : R) : R := { evsR { r with x := tick r.x } (events r.x) with hit := false, token := r.token && tokOk (tick r.x) }

/-- One side's book. -/
structure SBook (s : Stn) (d : Side) : Prop where
  q : s.queue = d.want.drop d.told
  t : d.told ≤ d.want.length
  j : s.joined = d.want.length
  f : ∀ m ∈ d.want, MsgFit m
structure Book (r : R) : Prop where
  good : LGood r.x
  a : SBook r.x.s0 r.a
  b : SBook r.x.s1 r.b

def toldS (d : Side) : Side := { d with told := d.told + 1, here := false }
def hereS (d : Side) : Side := { d with here := true }
def frs (r : R) (k : Nat) (d : Side) : Bool := if k = 3 ∧ r.calm = true ∧ d.told ≠ d.mark then false else r.fresh

section
variable {r : R} {m : Msg} {n k : Nat}
theorem evR_d0 (hw : r.wild = false) : evR r ⟨1, 0, 0, m⟩ = { r with b := hereS r.b } := by simp [evR, hw, setSide, sideOf, hereS]
theorem evR_d1 (hw : r.wild = false) : evR r ⟨1, 1, 0, m⟩ = { r with a := hereS r.a } := by simp [evR, hw, setSide, sideOf, hereS]
theorem evR_dw (i : Nat) (hw : r.wild = true) : evR r ⟨1, i, 0, m⟩ = r := by simp [evR, hw]
theorem evR_t0 (hk : k = 2 ∨ k = 3) : evR r ⟨k, 0, n, m⟩ = { r with a := toldS r.a, fresh := frs r k r.a } := by
  have : k ≠ 1 := by omega
  simp [evR, this, toldR, setSide, sideOf, toldS, frs]
theorem evR_t1 (hk : k = 2 ∨ k = 3) : evR r ⟨k, 1, n, m⟩ = { r with b := toldS r.b, fresh := frs r k r.b } := by
  have : k ≠ 1 := by omega
  simp [evR, this, toldR, setSide, sideOf, toldS, frs]
theorem evOk_d0 (h : r.wild = false → r.b.here = false ∧ r.b.told < r.b.want.length ∧ m = r.b.want.getD r.b.told noMsg) : evOk r ⟨1, 0, 0, m⟩ := by
  refine ⟨Or.inl rfl, Or.inr ⟨rfl, rfl, fun hw => ?_⟩⟩
  have : (1 - ((0 : Nat) : Int)) = 1 := by decide
  simp only [this, sideOf]
  exact h hw
theorem evOk_d1 (h : r.wild = false → r.a.here = false ∧ r.a.told < r.a.want.length ∧ m = r.a.want.getD r.a.told noMsg) : evOk r ⟨1, 1, 0, m⟩ := by
  refine ⟨Or.inr rfl, Or.inr ⟨rfl, rfl, fun hw => ?_⟩⟩
  have : (1 - ((1 : Nat) : Int)) = 0 := by decide
  simp only [this, sideOf]
  exact h hw
theorem evOk_t0 (hk : k = 2 ∨ k = 3) (hn : n = r.a.told + 1) (ht : r.a.told < r.a.want.length) (hh : k = 2 → r.a.here = true ∨ r.wild = true) : evOk r ⟨k, 0, n, noMsg⟩ :=
  ⟨Or.inl rfl, Or.inl ⟨hk, hn, ht, rfl, hh⟩⟩
theorem evOk_t1 (hk : k = 2 ∨ k = 3) (hn : n = r.b.told + 1) (ht : r.b.told < r.b.want.length) (hh : k = 2 → r.b.here = true ∨ r.wild = true) : evOk r ⟨k, 1, n, noMsg⟩ :=
  ⟨Or.inr rfl, Or.inl ⟨hk, hn, ht, rfl, hh⟩⟩
end

/-- What a tick does to a station, as its side sees it. -/
inductive Out (i : Nat) (s s' : Stn) : Option Ev → Prop
  | no (q : s'.queue = s.queue) (j : s'.joined = s.joined) : Out i s s' none
  | came (m : Msg) (q : s'.queue = s.queue) (j : s'.joined = s.joined) : Out i s s' (some ⟨1, i, 0, m⟩)
  | told (k : Nat) (hk : k = 2 ∨ k = 3) (ne : s.queue ≠ []) (q : s'.queue = s.queue.tail) (j : s'.joined = s.joined) : Out i s s' (some ⟨k, i, s.joined - s.queue.length + 1, noMsg⟩)

theorem out_of {c : Cfg} {now i : Nat} {s : Stn} {p : Put} (h : Ans) (hs : StOk c now i s p) : Out i s (one c (now + 1) i s h).1 (one c (now + 1) i s h).2.2 := by
  rcases ev_cases (c := c) (T := now + 1) (i := i) (s := s) (h := h) with ⟨e, q, j⟩ | ⟨m, e, _, _, q, j⟩ | ⟨k, hk, e, hm, _, q, j, _⟩
  · rw [e]; exact .no q j
  · rw [e]; exact .came m q j
  · rw [e]
    refine .told k hk (hs.que ?_) q j
    have := hs.mode
    omega

theorem SBook.same {s s' : Stn} {d : Side} (h : SBook s d) (q : s'.queue = s.queue) (j : s'.joined = s.joined) : SBook s' d := ⟨q.trans h.q, h.t, j.trans h.j, h.f⟩
theorem SBook.here {s : Stn} {d : Side} (h : SBook s d) : SBook s (hereS d) := ⟨h.q, h.t, h.j, h.f⟩
theorem SBook.lt {s : Stn} {d : Side} (h : SBook s d) (hq : s.queue ≠ []) : d.told < d.want.length := by
  rcases Nat.lt_or_ge d.told d.want.length with k | k
  · exact k
  · exact absurd (h.q.trans (List.drop_eq_nil_of_le k)) hq
theorem SBook.num {s : Stn} {d : Side} (h : SBook s d) : s.joined - s.queue.length + 1 = d.told + 1 := by
  have := h.t
  rw [h.j, h.q, List.length_drop]
  omega
theorem SBook.told {s s' : Stn} {d : Side} (h : SBook s d) (ne : s.queue ≠ []) (q : s'.queue = s.queue.tail) (j : s'.joined = s.joined) : SBook s' (toldS d) := by
  have := h.lt ne
  refine ⟨?_, ?_, j.trans h.j, h.f⟩
  · rw [q, h.q, List.tail_drop]; rfl
  · exact this
theorem SBook.mine {s : Stn} {d : Side} (h : SBook s d) : mine s = d.want.getD d.told noMsg := by
  unfold Mod.mine
  rw [h.q, List.headD_eq_head?_getD, List.head?_drop, List.getD_eq_getElem?_getD]
theorem SBook.fit {s : Stn} {d : Side} (h : SBook s d) : s.queue.length + d.told = d.want.length := by
  have := h.t
  rw [h.q, List.length_drop]
  omega

def isCame (e : Option Ev) : Bool := match e with | some e => decide (e.kind = 1) | none => false
def isTold (e : Option Ev) : Bool := match e with | some e => decide (e.kind = 2 ∨ e.kind = 3) | none => false
def isFail (e : Option Ev) : Bool := match e with | some e => decide (e.kind = 3) | none => false

/-- A side behind a tick: its own station's event, the other's. -/
def sideN (wild : Bool) (d : Side) (own other : Option Ev) : Side := if isTold own then toldS d else if isCame other && !wild then hereS d else d
def freshN (r : R) (e0 e1 : Option Ev) : Bool := if isFail e0 && r.calm && decide (r.a.told ≠ r.a.mark) then false else if isFail e1 && r.calm && decide (r.b.told ≠ r.b.mark) then false else r.fresh

/-- All that a tick's events must be. -/
structure TickOk (r : R) : Prop where
  evs : evsOk { r with x := tick r.x } (events r.x)
  len : (events r.x).length ≤ 2
  inc : ∀ z, 1 < (events r.x).length → ((events r.x).getD 0 z).station < ((events r.x).getD 1 z).station
  fit : fitOk (evsR { r with x := tick r.x } (events r.x))
structure TickR (r r' : R) : Prop where
  x : r'.x = tick r.x
  a : r'.a = sideN r.wild r.a (did0 r.x).2.2 (did1 r.x).2.2
  b : r'.b = sideN r.wild r.b (did1 r.x).2.2 (did0 r.x).2.2
  hit : r'.hit = false
  wild : r'.wild = r.wild
  calm : r'.calm = r.calm
  ok : r'.ok = r.ok
  fits : r'.fits = r.fits
  token : r'.token = (r.token && tokOk (tick r.x))
  fresh : r'.fresh = freshN r (did0 r.x).2.2 (did1 r.x).2.2

theorem tick_book {r : R} (h : Book r)
    (H0 : ∀ m, (did0 r.x).2.2 = some ⟨1, 0, 0, m⟩ → r.wild = false → r.b.here = false ∧ m = mine r.x.s1 ∧ r.x.s1.queue ≠ [] ∧ (did1 r.x).2.2 = none)
    (H1 : ∀ m, (did1 r.x).2.2 = some ⟨1, 1, 0, m⟩ → r.wild = false → r.a.here = false ∧ m = mine r.x.s0 ∧ r.x.s0.queue ≠ [] ∧ (did0 r.x).2.2 = none)
    (T0 : ∀ n, (did0 r.x).2.2 = some ⟨2, 0, n, noMsg⟩ → r.a.here = true ∨ r.wild = true)
    (T1 : ∀ n, (did1 r.x).2.2 = some ⟨2, 1, n, noMsg⟩ → r.b.here = true ∨ r.wild = true) :
    TickOk r ∧ TickR r (tkR r) ∧ Book (tkR r) := by
  obtain ⟨q0, k0⟩ := h.good.s0
  obtain ⟨q1, k1⟩ := h.good.s1
  have o0 : Out 0 r.x.s0 (tick r.x).s0 (did0 r.x).2.2 := out_of (hears0 r.x) k0
  have o1 : Out 1 r.x.s1 (tick r.x).s1 (did1 r.x).2.2 := out_of (hears1 r.x) k1
  have hg := h.good.tick
  have n0 := h.a.num
  have n1 := h.b.num
  have key : ∀ r1 : R, evsR { r with x := tick r.x } (events r.x) = { r with x := tick r.x, a := r1.a, b := r1.b, fresh := r1.fresh } → evsOk { r with x := tick r.x } (events r.x) → (events r.x).length ≤ 2 → (∀ z, 1 < (events r.x).length → ((events r.x).getD 0 z).station < ((events r.x).getD 1 z).station) →
      SBook (tick r.x).s0 r1.a → SBook (tick r.x).s1 r1.b → r1.a = sideN r.wild r.a (did0 r.x).2.2 (did1 r.x).2.2 → r1.b = sideN r.wild r.b (did1 r.x).2.2 (did0 r.x).2.2 → r1.fresh = freshN r (did0 r.x).2.2 (did1 r.x).2.2 → TickOk r ∧ TickR r (tkR r) ∧ Book (tkR r) := by
    intro r1 e1 e2 e3 e4 b0 b1 sa sb sf
    refine ⟨⟨e2, e3, e4, ?_⟩, ?_, ?_⟩
    · rw [e1]; exact ⟨b0.fit, b1.fit⟩
    · unfold tkR; rw [e1]; exact ⟨rfl, sa, sb, rfl, rfl, rfl, rfl, rfl, rfl, sf⟩
    · unfold tkR; rw [e1]; exact ⟨hg, b0, b1⟩
  generalize ha : (did0 r.x).2.2 = e0 at o0 H0 H1 T0 key
  generalize hb : (did1 r.x).2.2 = e1 at o1 H0 H1 T1 key
  have hev : events r.x = e0.toList ++ e1.toList := by unfold events; rw [ha, hb]
  rw [hev] at key
  have w2 : r.wild = false ∨ r.wild = true := by cases r.wild <;> simp
  have nk : ∀ k : Nat, k = 2 ∨ k = 3 → k ≠ 1 := fun k hk => by omega
  cases o0 with
  | no qa ja =>
    cases o1 with
    | no qb jb => exact key r rfl trivial (by simp) (by simp) (h.a.same qa ja) (h.b.same qb jb) rfl rfl rfl
    | came m qb jb =>
      rcases w2 with hw | hw
      · obtain ⟨x1, x2, x3, _⟩ := H1 m rfl hw
        refine key { r with a := hereS r.a } ?_ ⟨evOk_d1 (fun _ => ⟨x1, h.a.lt x3, x2.trans h.a.mine⟩), trivial⟩ (by simp) (by simp) (h.a.same qa ja).here (h.b.same qb jb) ?_ ?_ ?_
        · simp only [Option.toList, List.nil_append, List.append_nil, List.cons_append, evsR]
          rw [evR_d1 (by exact hw)]
        · simp [sideN, isTold, isCame, hw]
        · simp [sideN, isTold, isCame]
        · simp [freshN, isFail]
      · refine key r ?_ ⟨evOk_d1 (fun hf => absurd (hf.symm.trans hw) (by simp)), trivial⟩ (by simp) (by simp) (h.a.same qa ja) (h.b.same qb jb) ?_ ?_ ?_
        · simp only [Option.toList, List.nil_append, List.append_nil, List.cons_append, evsR]
          rw [evR_dw 1 (by exact hw)]
        · simp [sideN, isTold, isCame, hw]
        · simp [sideN, isTold, isCame]
        · simp [freshN, isFail]
    | told k hk ne qb jb =>
      refine key { r with b := toldS r.b, fresh := frs r k r.b } ?_ ⟨evOk_t1 hk n1 (h.b.lt ne) (fun e2 => by subst e2; exact T1 _ rfl), trivial⟩ (by simp) (by simp) (h.a.same qa ja) (h.b.told ne qb jb) ?_ ?_ ?_
      · simp only [Option.toList, List.nil_append, List.append_nil, List.cons_append, evsR]
        rw [evR_t1 hk]; rfl
      · have := nk k hk
        simp [sideN, isTold, isCame, this]
      · simp [sideN, isTold, hk]
      · simp only [freshN, isFail, frs]
        by_cases k3 : k = 3 <;> simp [k3, and_assoc]
  | came m qa ja =>
    cases o1 with
    | no qb jb =>
      rcases w2 with hw | hw
      · obtain ⟨x1, x2, x3, _⟩ := H0 m rfl hw
        refine key { r with b := hereS r.b } ?_ ⟨evOk_d0 (fun _ => ⟨x1, h.b.lt x3, x2.trans h.b.mine⟩), trivial⟩ (by simp) (by simp) (h.a.same qa ja) (h.b.same qb jb).here ?_ ?_ ?_
        · simp only [Option.toList, List.nil_append, List.append_nil, List.cons_append, evsR]
          rw [evR_d0 (by exact hw)]
        · simp [sideN, isTold, isCame]
        · simp [sideN, isTold, isCame, hw]
        · simp [freshN, isFail]
      · refine key r ?_ ⟨evOk_d0 (fun hf => absurd (hf.symm.trans hw) (by simp)), trivial⟩ (by simp) (by simp) (h.a.same qa ja) (h.b.same qb jb) ?_ ?_ ?_
        · simp only [Option.toList, List.nil_append, List.append_nil, List.cons_append, evsR]
          rw [evR_dw 0 (by exact hw)]
        · simp [sideN, isTold, isCame]
        · simp [sideN, isTold, isCame, hw]
        · simp [freshN, isFail]
    | came m' qb jb =>
      rcases w2 with hw | hw
      · obtain ⟨_, _, _, x⟩ := H0 m rfl hw
        cases x
      · refine key r ?_ ⟨evOk_d0 (fun hf => absurd (hf.symm.trans hw) (by simp)), ?_, trivial⟩ (by simp) (by simp) (h.a.same qa ja) (h.b.same qb jb) ?_ ?_ ?_
        · simp only [Option.toList, List.nil_append, List.append_nil, List.cons_append, evsR]
          rw [evR_dw 0 (by exact hw), evR_dw 1 (by exact hw)]
        · rw [evR_dw 0 (by exact hw)]
          exact evOk_d1 (fun hf => absurd (hf.symm.trans hw) (by simp))
        · simp [sideN, isTold, isCame, hw]
        · simp [sideN, isTold, isCame, hw]
        · simp [freshN, isFail]
    | told k hk ne qb jb =>
      rcases w2 with hw | hw
      · obtain ⟨_, _, _, x⟩ := H0 m rfl hw
        cases x
      · refine key { r with b := toldS r.b, fresh := frs r k r.b } ?_ ⟨evOk_d0 (fun hf => absurd (hf.symm.trans hw) (by simp)), ?_, trivial⟩ (by simp) (by simp) (h.a.same qa ja) (h.b.told ne qb jb) ?_ ?_ ?_
        · simp only [Option.toList, List.nil_append, List.append_nil, List.cons_append, evsR]
          rw [evR_dw 0 (by exact hw), evR_t1 hk]; rfl
        · rw [evR_dw 0 (by exact hw)]
          exact evOk_t1 hk n1 (h.b.lt ne) (fun _ => Or.inr hw)
        · have := nk k hk
          simp [sideN, isTold, isCame, this]
        · simp [sideN, isTold, hk]
        · simp only [freshN, isFail, frs]
          by_cases k3 : k = 3 <;> simp [k3, and_assoc]
  | told k hk ne qa ja =>
    cases o1 with
    | no qb jb =>
      refine key { r with a := toldS r.a, fresh := frs r k r.a } ?_ ⟨evOk_t0 hk n0 (h.a.lt ne) (fun e2 => by subst e2; exact T0 _ rfl), trivial⟩ (by simp) (by simp) (h.a.told ne qa ja) (h.b.same qb jb) ?_ ?_ ?_
      · simp only [Option.toList, List.nil_append, List.append_nil, List.cons_append, evsR]
        rw [evR_t0 hk]; rfl
      · simp [sideN, isTold, hk]
      · have := nk k hk
        simp [sideN, isTold, isCame, this]
      · simp only [freshN, isFail, frs]
        by_cases k3 : k = 3 <;> simp [k3, and_assoc]
    | came m qb jb =>
      rcases w2 with hw | hw
      · obtain ⟨_, _, _, x⟩ := H1 m rfl hw
        cases x
      · refine key { r with a := toldS r.a, fresh := frs r k r.a } ?_ ⟨evOk_t0 hk n0 (h.a.lt ne) (fun _ => Or.inr hw), ?_, trivial⟩ (by simp) (by simp) (h.a.told ne qa ja) (h.b.same qb jb) ?_ ?_ ?_
        · simp only [Option.toList, List.nil_append, List.append_nil, List.cons_append, evsR]
          rw [evR_t0 hk, evR_dw 1 (by exact hw)]; rfl
        · rw [evR_t0 hk]
          exact evOk_d1 (fun hf => absurd (hf.symm.trans hw) (by simp))
        · simp [sideN, isTold, hk]
        · have := nk k hk
          simp [sideN, isTold, isCame, this]
        · simp only [freshN, isFail, frs]
          by_cases k3 : k = 3 <;> simp [k3, and_assoc]
    | told k' hk' ne' qb jb =>
      refine key { r with a := toldS r.a, b := toldS r.b, fresh := frs { r with fresh := frs r k r.a } k' r.b } ?_ ⟨evOk_t0 hk n0 (h.a.lt ne) (fun e2 => by subst e2; exact T0 _ rfl), ?_, trivial⟩ (by simp) (by simp) (h.a.told ne qa ja) (h.b.told ne' qb jb) ?_ ?_ ?_
      · simp only [Option.toList, List.nil_append, List.append_nil, List.cons_append, evsR]
        rw [evR_t0 hk, evR_t1 hk']; rfl
      · rw [evR_t0 hk]
        exact evOk_t1 hk' n1 (h.b.lt ne') (fun e2 => by subst e2; exact T1 _ rfl)
      · simp [sideN, isTold, hk]
      · simp [sideN, isTold, hk']
      · simp only [freshN, isFail, frs]
        by_cases k3 : k = 3 <;> by_cases k3' : k' = 3 <;> simp [k3, k3', and_assoc]
        rw [Bool.and_left_comm]

end Go.Proofs.YtlbpjcphhocdkabGreatDoor.Run

namespace Go.Proofs.YtlbpjcphhocdkabGreatDoor.Run
open Go.Proofs.YtlbpjcphhocdkabGreatDoor.Mod Go.Proofs.YtlbpjcphhocdkabGreatDoor.Pst

theorem may_none (p : Put) : May p (.none 0) := by
  cases p with
  | nil => rfl
  | short k => exact Or.inr rfl
  | blk b => exact Or.inr (Or.inl rfl)
theorem may_exact (p : Put) : May p (exact' p) := by
  cases p with
  | nil => rfl
  | short k => exact Or.inl rfl
  | blk b => exact Or.inl rfl
theorem tx_ne (c : Cfg) {p : Put} (h : p ≠ .nil) : txOf c p ≠ [] := by
  cases p with
  | nil => exact absurd rfl h
  | short k => simp [txOf]
  | blk b => simp [txOf]
theorem tx_bid (c : Cfg) : txOf c (.short 3) = bidL := rfl
theorem tx_yes (c : Cfg) : txOf c (.short 7) = yesL := rfl

/-- The line, and what was put on it. -/
structure Pts (x : Ln) (hit : Bool) (ha hb : Bool) (p0 p1 : Put) : Prop where
  tok : Tok x.c x.now x.s0 x.s1 p0 p1
  d0 : Dir x.c x.s0 x.s1 p0 p1 ha
  d1 : Dir x.c x.s1 x.s0 p1 p0 hb
  k0 : PutOk p0
  k1 : PutOk p1
  n0 : p0 = .nil → x.on0 = []
  n1 : p1 = .nil → x.on1 = []
  m0 : May p0 (hear x.c x.on0)
  m1 : May p1 (hear x.c x.on1)
  w0 : hit = false → x.on0 = txOf x.c p0 ∨ x.on0 = []
  w1 : hit = false → x.on1 = txOf x.c p1 ∨ x.on1 = []
  both : p0 ≠ .nil → p1 ≠ .nil → x.on0 = txOf x.c p0 ∧ x.on1 = txOf x.c p1

theorem Pts.hears0 {x : Ln} {hit ha hb : Bool} {p0 p1 : Put} (h : Pts x hit ha hb p0 p1) : Hears p0 p1 (hears0 x) := by
  unfold Mod.hears0
  by_cases z : p0 = .nil
  · right
    refine ⟨z, ?_⟩
    rw [if_neg (by simp [h.n0 z])]
    exact h.m1
  · left
    refine ⟨z, ?_⟩
    by_cases o : x.on0 = []
    · rw [if_neg (by simp [o])]
      by_cases z1 : p1 = .nil
      · rw [h.n1 z1, hear_nil]
      · exact absurd o ((h.both z z1).1 ▸ tx_ne x.c z)
    · rw [if_pos o]
theorem Pts.hears1 {x : Ln} {hit ha hb : Bool} {p0 p1 : Put} (h : Pts x hit ha hb p0 p1) : Hears p1 p0 (hears1 x) := by
  unfold Mod.hears1
  by_cases z : p1 = .nil
  · right
    refine ⟨z, ?_⟩
    rw [if_neg (by simp [h.n1 z])]
    exact h.m0
  · left
    refine ⟨z, ?_⟩
    by_cases o : x.on1 = []
    · rw [if_neg (by simp [o])]
      by_cases z1 : p0 = .nil
      · rw [h.n0 z1, hear_nil]
      · exact absurd o ((h.both z1 z).2 ▸ tx_ne x.c z)
    · rw [if_pos o]

/-- All of it, of a run that is not wild. -/
structure Inv (r : R) : Prop where
  book : Book r
  nw : r.wild = false
  pts : ∃ p0 p1, Pts r.x r.hit r.a.here r.b.here p0 p1

theorem here_next {own other : Option Ev} {d : Side} {here' : Bool} (t : isTold own = true → here' = false) (m : isTold own = false → isCame other = true → here' = true) (e : isTold own = false → isCame other = false → here' = d.here) : here' = (sideN false d own other).here := by
  unfold sideN
  cases h1 : isTold own with
  | true => exact t h1
  | false =>
    cases h2 : isCame other with
    | true => exact m h1 h2
    | false => exact e h1 h2
theorem DirStep.here {c : Cfg} {i j : Nat} {s t : Stn} {d : Side} {ds dt : Did} {here' : Bool} (h : DirStep c i j s t d.here ds dt here') : here' = (sideN false d ds.2.2 dt.2.2).here := by
  refine here_next ?_ ?_ ?_
  · intro z
    cases e : ds.2.2 with
    | none => rw [e] at z; cases z
    | some ev =>
      rw [e] at z
      exact (h.told ev e (of_decide_eq_true z)).2.1
  · intro _ z
    cases e : dt.2.2 with
    | none => rw [e] at z; cases z
    | some ev =>
      rw [e] at z
      exact (h.came ev e (of_decide_eq_true z)).2.2.2.1
  · intro z1 z2
    refine h.else' ?_ ?_
    · intro ev e k
      rw [e] at z2
      exact absurd k (of_decide_eq_false z2)
    · intro ev e
      rw [e] at z1
      have := of_decide_eq_false z1
      omega

/-- What is on the line behind a tick. -/
theorem pts_tick {x : Ln} {hit ha hb ha' hb' : Bool} {p0 p1 : Put} (hg : LGood x) (h : Pts x hit ha hb p0 p1)
    (d0 : Dir x.c (did0 x).1 (did1 x).1 (did0 x).2.1 (did1 x).2.1 ha') (d1 : Dir x.c (did1 x).1 (did0 x).1 (did1 x).2.1 (did0 x).2.1 hb') : Pts (tick x) false ha' hb' (did0 x).2.1 (did1 x).2.1 := by
  have k0 : PutOk (did0 x).2.1 := one_put hg.c _ h.tok.a hg.b0
  have k1 : PutOk (did1 x).2.1 := one_put hg.c _ h.tok.b hg.b1
  refine ⟨tok_step hg.c h.tok h.hears0 h.hears1, d0, d1, k0, k1, ?_, ?_, ?_, ?_, fun _ => Or.inl rfl, fun _ => Or.inl rfl, fun _ _ => ⟨rfl, rfl⟩⟩
  · intro e; show txOf x.c (did0 x).2.1 = []; rw [e]; rfl
  · intro e; show txOf x.c (did1 x).2.1 = []; rw [e]; rfl
  · show May _ (hear x.c (txOf x.c (did0 x).2.1)); rw [hear_exact hg.c k0]; exact may_exact _
  · show May _ (hear x.c (txOf x.c (did1 x).2.1)); rw [hear_exact hg.c k1]; exact may_exact _

theorem sbody_3 : [22, 22] ++ sbody 3 ++ [255] = bidL := rfl

/-- One speaks. -/
theorem Pts.tokOk {x : Ln} {hit ha hb : Bool} {p0 p1 : Put} (h : Pts x hit ha hb p0 p1) : tokOk x = true := by
  have hm0 := h.tok.k0
  have hm1 := h.tok.k1
  unfold Kept at hm0 hm1
  unfold Run.tokOk
  have e1 : (decide (x.s0.mode = 2 ∧ x.s1.mode ≠ 3) || decide (x.s1.mode = 2 ∧ x.s0.mode ≠ 3)) = false := by
    rw [Bool.or_eq_false_iff]
    constructor
    · refine decide_eq_false ?_
      rintro ⟨a, b⟩
      exact b (hm0 a).1
    · refine decide_eq_false ?_
      rintro ⟨a, b⟩
      exact b (hm1 a).1
  rw [e1]
  by_cases z : x.on0 ≠ [] ∧ x.on1 ≠ []
  · have z0 : p0 ≠ .nil := fun e => z.1 (h.n0 e)
    have z1 : p1 ≠ .nil := fun e => z.2 (h.n1 e)
    obtain ⟨a, b⟩ := h.both z0 z1
    obtain ⟨c, d⟩ := h.tok.t z0 z1
    have : decide (x.on0 ≠ bidL ∨ x.on1 ≠ bidL) = false := by
      refine decide_eq_false ?_
      rw [a, b, c, d, tx_bid]
      simp
    rw [this]
    simp
  · have : decide (x.on0 ≠ [] ∧ x.on1 ≠ []) = false := decide_eq_false z
    rw [this]
    rfl

theorem dirs {r : R} (h : Inv r) : ∃ p0 p1, Pts r.x r.hit r.a.here r.b.here p0 p1 ∧ DirStep r.x.c 0 1 r.x.s0 r.x.s1 r.a.here (did0 r.x) (did1 r.x) (sideN false r.a (did0 r.x).2.2 (did1 r.x).2.2).here ∧ DirStep r.x.c 1 0 r.x.s1 r.x.s0 r.b.here (did1 r.x) (did0 r.x) (sideN false r.b (did1 r.x).2.2 (did0 r.x).2.2).here := by
  obtain ⟨p0, p1, hp⟩ := h.pts
  have hc := h.book.good.c
  obtain ⟨a', s0⟩ := dir_step (i := 0) (j := 1) hc hp.tok.a hp.tok.b hp.tok.k0 hp.d0 hp.hears0 hp.hears1
  obtain ⟨b', s1⟩ := dir_step (i := 1) (j := 0) hc hp.tok.b hp.tok.a hp.tok.k1 hp.d1 hp.hears1 hp.hears0
  have ea := DirStep.here s0
  have eb := DirStep.here s1
  rw [ea] at s0
  rw [eb] at s1
  exact ⟨p0, p1, hp, s0, s1⟩

/-- A tick. -/
theorem inv_tick {r : R} (h : Inv r) : TickOk r ∧ TickR r (tkR r) ∧ Inv (tkR r) ∧ (tkR r).token = r.token ∧ Pts (tkR r).x false (tkR r).a.here (tkR r).b.here (did0 r.x).2.1 (did1 r.x).2.1 := by
  obtain ⟨p0, p1, hp, s0, s1⟩ := dirs h
  have hb := tick_book h.book
    (fun m e hw => by
      obtain ⟨x1, x2, x3, _, x5⟩ := s1.came _ e rfl
      refine ⟨x1, ?_, x3, x5⟩
      exact congrArg Ev.msg x2)
    (fun m e hw => by
      obtain ⟨x1, x2, x3, _, x5⟩ := s0.came _ e rfl
      refine ⟨x1, ?_, x3, x5⟩
      exact congrArg Ev.msg x2)
    (fun n e => Or.inl ((s0.told _ e (Or.inl rfl)).1 rfl))
    (fun n e => Or.inl ((s1.told _ e (Or.inl rfl)).1 rfl))
  obtain ⟨t1, t2, t3⟩ := hb
  have np := pts_tick h.book.good hp s0.dir s1.dir
  have np' : Pts (tkR r).x false (tkR r).a.here (tkR r).b.here (did0 r.x).2.1 (did1 r.x).2.1 := by
    rw [t2.x, t2.a, t2.b, h.nw]
    exact np
  refine ⟨t1, t2, ⟨t3, t2.wild.trans h.nw, ?_⟩, ?_, np'⟩
  · rw [t2.hit]
    exact ⟨_, _, np'⟩
  · rw [t2.token, np.tokOk, Bool.and_true]

/-- A wild one. -/
theorem wild_tick {r : R} (h : Book r) (hw : r.wild = true) : TickOk r ∧ TickR r (tkR r) ∧ Book (tkR r) :=
  tick_book h (fun m e w => by rw [hw] at w; cases w) (fun m e w => by rw [hw] at w; cases w) (fun _ _ => Or.inr hw) (fun _ _ => Or.inr hw)

/-- Submit. -/
theorem msgfit_ok {m : Msg} (h : MsgFit m) : MsgOk m := by
  refine ⟨?_, h.2.1⟩
  have := h.1
  unfold Blk.headOk at this
  simp only [Bool.and_eq_true, decide_eq_true_eq] at this
  omega
theorem mine_sub {s : Stn} (m : Msg) (h : s.queue ≠ []) : mine (subS s m) = mine s := head_sub m h
theorem dir_sub_s {c : Cfg} {now i : Nat} {s t : Stn} {p q : Put} {here : Bool} {m : Msg} (ho : StOk c now i s p) (h : Dir c s t p q here) (hm : MsgFit m) : Dir c (subS s m) t p q here := by
  refine ⟨?_, h.off, h.bid, ?_⟩
  · intro a ha
    rcases List.mem_append.1 ha with k | k
    · exact h.msgs a k
    · rw [List.mem_singleton.1 k]; exact msgfit_ok hm
  · intro m2
    have := h.snd m2
    unfold Under at this ⊢
    rw [mine_sub m (ho.que (Or.inr m2))]
    exact this
theorem dir_sub_t {c : Cfg} {s t : Stn} {p q : Put} {here : Bool} (m : Msg) (h : Dir c s t p q here) : Dir c s (subS t m) p q here := ⟨h.msgs, h.off, h.bid, h.snd⟩
theorem SBook.sub {s : Stn} {d : Side} {m : Msg} (h : SBook s d) (hm : MsgFit m) : SBook (subS s m) { d with want := d.want ++ [m] } := by
  refine ⟨?_, ?_, ?_, ?_⟩
  · show s.queue ++ [m] = (d.want ++ [m]).drop d.told
    rw [List.drop_append_of_le_length h.t, h.q]
  · have := h.t; simp; omega
  · show s.joined + 1 = (d.want ++ [m]).length
    rw [h.j]; simp
  · intro a ha
    rcases List.mem_append.1 ha with k | k
    · exact h.f a k
    · rw [List.mem_singleton.1 k]; exact hm

/-- A message joins. -/
def sayR (r : R) (st : Int) (m : Msg) : R := { setSide r st { sideOf r st with want := (sideOf r st).want ++ [m] } with x := submitL r.x st m }
theorem say_inv {r : R} (h : Inv r) {st : Int} {m : Msg} (he : submitE r.x st m = 0) : Inv (sayR r st m) := by
  obtain ⟨hst, hm, hq⟩ := submit_cases he
  have hg := h.book.good.submit st m
  obtain ⟨p0, p1, hp⟩ := h.pts
  unfold sayR submitL
  unfold submitL at hg
  rw [if_pos he] at hg ⊢
  rcases hst with rfl | rfl
  · simp only [setSide, sideOf, if_true] at hg ⊢
    refine ⟨⟨hg, h.book.a.sub hm, h.book.b⟩, h.nw, p0, p1, ?_⟩
    exact ⟨⟨sub_ok m hp.tok.a, hp.tok.b, hp.tok.k0, hp.tok.k1, hp.tok.t⟩, dir_sub_s hp.tok.a hp.d0 hm, dir_sub_t m hp.d1, hp.k0, hp.k1, hp.n0, hp.n1, hp.m0, hp.m1, hp.w0, hp.w1, hp.both⟩
  · simp only [setSide, sideOf, show ¬ (1 : Int) = 0 by decide, if_false] at hg ⊢
    refine ⟨⟨hg, h.book.a, h.book.b.sub hm⟩, h.nw, p0, p1, ?_⟩
    exact ⟨⟨hp.tok.a, sub_ok m hp.tok.b, hp.tok.k0, hp.tok.k1, hp.tok.t⟩, dir_sub_t m hp.d0, dir_sub_s hp.tok.b hp.d1 hm, hp.k0, hp.k1, hp.n0, hp.n1, hp.m0, hp.m1, hp.w0, hp.w1, hp.both⟩
theorem say_book {r : R} (h : Book r) {st : Int} {m : Msg} (he : submitE r.x st m = 0) : Book (sayR r st m) := by
  obtain ⟨hst, hm, hq⟩ := submit_cases he
  have hg := h.good.submit st m
  unfold sayR submitL
  unfold submitL at hg
  rw [if_pos he] at hg ⊢
  rcases hst with rfl | rfl
  · simp only [setSide, sideOf, if_true] at hg ⊢
    exact ⟨hg, h.a.sub hm, h.b⟩
  · simp only [setSide, sideOf, show ¬ (1 : Int) = 0 by decide, if_false] at hg ⊢
    exact ⟨hg, h.a, h.b.sub hm⟩

/-- Busy. -/
theorem busy_inv {r : R} (h : Inv r) (st : Int) (on : Bool) : Inv { r with x := busyL r.x st on } := by
  have hg := h.book.good.busy st on
  obtain ⟨p0, p1, hp⟩ := h.pts
  unfold busyL
  unfold busyL at hg
  split at hg
  · rename_i z
    simp only [z, if_true]
    refine ⟨⟨hg, ⟨h.book.a.q, h.book.a.t, h.book.a.j, h.book.a.f⟩, h.book.b⟩, h.nw, p0, p1, ?_⟩
    exact ⟨⟨busy_ok on hp.tok.a, hp.tok.b, hp.tok.k0, hp.tok.k1, hp.tok.t⟩, ⟨hp.d0.msgs, hp.d0.off, hp.d0.bid, hp.d0.snd⟩, ⟨hp.d1.msgs, hp.d1.off, hp.d1.bid, hp.d1.snd⟩, hp.k0, hp.k1, hp.n0, hp.n1, hp.m0, hp.m1, hp.w0, hp.w1, hp.both⟩
  · rename_i z
    split at hg
    · rename_i z1
      rw [if_neg z, if_pos z1]
      refine ⟨⟨hg, h.book.a, ⟨h.book.b.q, h.book.b.t, h.book.b.j, h.book.b.f⟩⟩, h.nw, p0, p1, ?_⟩
      exact ⟨⟨hp.tok.a, busy_ok on hp.tok.b, hp.tok.k0, hp.tok.k1, hp.tok.t⟩, ⟨hp.d0.msgs, hp.d0.off, hp.d0.bid, hp.d0.snd⟩, ⟨hp.d1.msgs, hp.d1.off, hp.d1.bid, hp.d1.snd⟩, hp.k0, hp.k1, hp.n0, hp.n1, hp.m0, hp.m1, hp.w0, hp.w1, hp.both⟩
    · rename_i z1
      rw [if_neg z, if_neg z1]
      exact h
theorem busy_book {r : R} (h : Book r) (st : Int) (on : Bool) : Book { r with x := busyL r.x st on } := by
  have hg := h.good.busy st on
  unfold busyL
  unfold busyL at hg
  split at hg
  · rename_i z
    simp only [z, if_true]
    exact ⟨hg, ⟨h.a.q, h.a.t, h.a.j, h.a.f⟩, h.b⟩
  · rename_i z
    split at hg
    · rename_i z1
      rw [if_neg z, if_pos z1]
      exact ⟨hg, h.a, ⟨h.b.q, h.b.t, h.b.j, h.b.f⟩⟩
    · rename_i z1
      rw [if_neg z, if_neg z1]
      exact h
theorem fault_book {r : R} (h : Book r) (k p v : Int) : Book { r with x := faultL r.x k p v } := by
  have hg := h.good.fault k p v
  have e0 : (faultL r.x k p v).s0 = r.x.s0 := by unfold faultL; split; · rfl
                                                 · split <;> rfl
  have e1 : (faultL r.x k p v).s1 = r.x.s1 := by unfold faultL; split; · rfl
                                                 · split <;> rfl
  exact ⟨hg, by rw [e0]; exact h.a, by rw [e1]; exact h.b⟩

/-- What a fault may make of what is on the line. -/
def Flt (c : Cfg) (hit : Bool) (l l' : List UInt8) (hit' : Bool) : Prop := ∀ p, PutOk p → l ≠ [] → (hit = false → l = txOf c p ∨ l = []) → May p (hear c l') ∧ (hit' = false → l' = [])

theorem on_fault {x : Ln} {hit hit' ha hb : Bool} {p0 p1 : Put} {k p v : Int} (h : Pts x hit ha hb p0 p1) (hh : hit' = false → hit = false)
    (f0 : Flt x.c hit x.on0 ((faultOf x.on0 k p v).getD x.on0) hit') (f1 : Flt x.c hit x.on1 ((faultOf x.on1 k p v).getD x.on1) hit') : Pts (faultL x k p v) hit' ha hb p0 p1 := by
  unfold faultL
  by_cases z0 : x.on0 ≠ [] ∧ x.on1 = []
  · rw [if_pos z0]
    obtain ⟨m, w⟩ := f0 p0 h.k0 z0.1 h.w0
    refine ⟨h.tok, h.d0, h.d1, h.k0, h.k1, fun e => absurd (h.n0 e) z0.1, h.n1, m, h.m1, fun e => Or.inr (w e), fun e => h.w1 (hh e), fun e0 e1 => ?_⟩
    exact absurd z0.2 ((h.both e0 e1).2 ▸ tx_ne x.c e1)
  · rw [if_neg z0]
    by_cases z1 : x.on0 = [] ∧ x.on1 ≠ []
    · rw [if_pos z1]
      obtain ⟨m, w⟩ := f1 p1 h.k1 z1.2 h.w1
      refine ⟨h.tok, h.d0, h.d1, h.k0, h.k1, h.n0, fun e => absurd (h.n1 e) z1.2, h.m0, m, fun e => h.w0 (hh e), fun e => Or.inr (w e), fun e0 e1 => ?_⟩
      exact absurd z1.1 ((h.both e0 e1).1 ▸ tx_ne x.c e0)
    · rw [if_neg z1]
      exact ⟨h.tok, h.d0, h.d1, h.k0, h.k1, h.n0, h.n1, h.m0, h.m1, fun e => h.w0 (hh e), fun e => h.w1 (hh e), h.both⟩

theorem flt_lose (c : Cfg) (hit hit' : Bool) (l : List UInt8) : Flt c hit l ((faultOf l 0 0 0).getD l) hit' := by
  intro p hp _ _
  have : (faultOf l 0 0 0).getD l = [] := rfl
  rw [this]
  exact ⟨by rw [hear_nil]; exact may_none p, fun _ => rfl⟩
theorem flt_cut {c : Cfg} (hc : c.Ok) (l : List UInt8) (j v : Int) : Flt c false l ((faultOf l 1 j v).getD l) true := by
  intro p hp hl hw
  refine ⟨?_, fun e => by cases e⟩
  rcases hw rfl with e | e
  · unfold faultOf
    rw [if_neg (by decide), if_pos rfl]
    split
    · show May p (hear c (l.take j.toNat))
      rw [e]; exact hear_cut hc hp _
    · show May p (hear c l)
      rw [e, hear_exact hc hp]; exact may_exact p
  · exact absurd e hl
theorem xor_ne (a b : UInt8) (h : b ≠ 0) : a ^^^ b ≠ a := by
  intro e
  apply h
  have : a ^^^ (a ^^^ b) = a ^^^ a := by rw [e]
  rw [← UInt8.xor_assoc, UInt8.xor_self, UInt8.zero_xor] at this
  exact this
theorem flt_turn {c : Cfg} (hc : c.Ok) (l : List UInt8) (j v : Int) (hj : 3 ≤ j) (h5 : 5 < l.length) : Flt c false l ((faultOf l 2 j v).getD l) true := by
  intro p hp hl hw
  refine ⟨?_, fun e => by cases e⟩
  rcases hw rfl with e | e
  · unfold faultOf
    rw [if_neg (by decide), if_neg (by decide), if_pos rfl]
    split
    · rename_i hx
      show May p (hear c (l.set j.toNat (l.getD j.toNat 0 ^^^ UInt8.ofNat v.toNat)))
      cases p with
      | nil => rw [e] at h5; simp [txOf] at h5
      | short k =>
        have := sbody_le k
        rw [e] at h5
        simp only [txOf, List.length_append, List.length_cons, List.length_nil] at h5
        omega
      | blk b =>
        subst e
        refine hear_turn hc hp j.toNat (by omega) (by omega) _ ?_
        have hlt : j.toNat < (txOf c (.blk b)).length := by omega
        rw [List.getD_eq_getElem?_getD, List.getElem?_eq_getElem hlt, Option.getD_some]
        refine xor_ne _ _ ?_
        intro z
        have := congrArg UInt8.toNat z
        rw [UInt8.toNat_ofNat'] at this
        have h2 : v.toNat % 256 = v.toNat := Nat.mod_eq_of_lt (by omega)
        simp only [UInt8.reduceToNat] at this
        omega
    · show May p (hear c l)
      rw [e, hear_exact hc hp]; exact may_exact p
  · exact absurd e hl

end Go.Proofs.YtlbpjcphhocdkabGreatDoor.Run

namespace Go.Proofs.YtlbpjcphhocdkabGreatDoor.Run
open Go.Proofs.YtlbpjcphhocdkabGreatDoor.Mod Go.Proofs.YtlbpjcphhocdkabGreatDoor.Pst

def leftN (r : R) : Nat := (r.a.want.length - r.a.told) + (r.b.want.length - r.b.told)

def blksN (l : List Msg) : Nat := (l.map fun m => m.text.length + 1).sum
theorem blksN_step (l : List Msg) (k : Nat) (hk : k < l.length) : blksN (l.drop k) = (l.getD k noMsg).text.length + 1 + blksN (l.drop (k + 1)) := by
  rw [List.drop_eq_getElem_cons hk]
  unfold blksN
  rw [List.map_cons, List.sum_cons, List.getD, List.getElem?_eq_getElem hk]
  rfl

def turnN (c : Cfg) : Nat := c.lost + 4 * c.second + (c.tries + 4) * c.reply + 10
def boundN (r : R) : Nat := (leftN r + 2) * turnN r.x.c + 2 * (blksN (r.a.want.drop r.a.told) + blksN (r.b.want.drop r.b.told))


theorem left_q {r : R} (h : Book r) : leftN r = r.x.s0.queue.length + r.x.s1.queue.length := by
  have h1 := h.a.fit
  have h2 := h.b.fit
  unfold leftN
  omega
theorem blks_mono (l : List Msg) (k : Nat) : blksN (l.drop (k + 1)) ≤ blksN (l.drop k) := by
  rcases Nat.lt_or_ge k l.length with h | h
  · have := blksN_step l k h; omega
  · rw [List.drop_eq_nil_of_le h, List.drop_eq_nil_of_le (by omega)]; exact Nat.le_refl _
theorem rem_blks {c : Cfg} (hc : c.Ok) (s : Stn) : rem c s ≤ blksN s.queue := by
  have key : ∀ l : List Msg, (l.map (nblk c)).sum ≤ blksN l := by
    intro l
    induction l with
    | nil => exact Nat.le_refl _
    | cons m l ih =>
      have := nblk_le hc m
      unfold blksN at ih ⊢
      simp only [List.map_cons, List.sum_cons]
      omega
  have := key s.queue
  unfold rem
  omega

/-- A side behind a tick. -/
theorem sideN_want (w : Bool) (d : Side) (a b : Option Ev) : (sideN w d a b).want = d.want := by
  unfold sideN
  split
  · rfl
  · split <;> rfl
theorem sideN_mark (w : Bool) (d : Side) (a b : Option Ev) : (sideN w d a b).mark = d.mark := by
  unfold sideN
  split
  · rfl
  · split <;> rfl
theorem sideN_told (w : Bool) (d : Side) (a b : Option Ev) : (sideN w d a b).told = d.told + (if isTold a then 1 else 0) := by
  unfold sideN
  split
  · rfl
  · split <;> rfl
theorem sideN_blks (w : Bool) (d : Side) (a b : Option Ev) : blksN ((sideN w d a b).want.drop (sideN w d a b).told) ≤ blksN (d.want.drop d.told) := by
  rw [sideN_want, sideN_told]
  split
  · exact blks_mono _ _
  · exact Nat.le_refl _

/-- The line bears just what was put. -/
structure Exa (x : Ln) (p0 p1 : Put) : Prop where
  e0 : x.on0 = txOf x.c p0
  e1 : x.on1 = txOf x.c p1
  k0 : PutOk p0
  k1 : PutOk p1
theorem Exa.hears0 {x : Ln} {p0 p1 : Put} (hc : x.c.Ok) (h : Exa x p0 p1) : Mod.hears0 x = hE p0 p1 := by
  unfold Mod.hears0 hE
  by_cases z : p0 = .nil
  · rw [if_pos z, if_neg (by rw [h.e0, z]; simp [txOf]), h.e1, hear_exact hc h.k1]
  · rw [if_neg z, if_pos (by rw [h.e0]; exact tx_ne _ z)]
theorem Exa.hears1 {x : Ln} {p0 p1 : Put} (hc : x.c.Ok) (h : Exa x p0 p1) : Mod.hears1 x = hE p1 p0 := by
  unfold Mod.hears1 hE
  by_cases z : p1 = .nil
  · rw [if_pos z, if_neg (by rw [h.e1, z]; simp [txOf]), h.e0, hear_exact hc h.k0]
  · rw [if_neg z, if_pos (by rw [h.e1]; exact tx_ne _ z)]

/-- Nobody is busy. -/
structure Cal (r : R) : Prop where
  inv : Inv r
  b0 : r.x.s0.busy = false
  b1 : r.x.s1.busy = false
/-- .. and nothing is torn. -/
structure Cam (r : R) (p0 p1 : Put) : Prop where
  cal : Cal r
  hit : r.hit = false
  pts : Pts r.x false r.a.here r.b.here p0 p1
  exa : Exa r.x p0 p1
theorem Cam.st {r : R} {p0 p1 : Put} (h : Cam r p0 p1) : CalmSt r.x.c r.x.now r.x.s0 r.x.s1 p0 p1 :=
  ⟨h.pts.tok, ⟨_, h.pts.d0⟩, ⟨_, h.pts.d1⟩, h.cal.b0, h.cal.b1, h.cal.inv.book.good.b0.rest, h.cal.inv.book.good.b1.rest⟩
theorem Cal.tick {r : R} (h : Cal r) : Cam (tkR r) (did0 r.x).2.1 (did1 r.x).2.1 := by
  obtain ⟨_, t, i, _, np⟩ := inv_tick h.inv
  refine ⟨⟨i, ?_, ?_⟩, t.hit, np, ?_⟩
  · rw [t.x]; exact one_busy.trans h.b0
  · rw [t.x]; exact one_busy.trans h.b1
  · refine ⟨?_, ?_, np.k0, np.k1⟩
    · rw [t.x]; rfl
    · rw [t.x]; rfl
theorem Cam.did0 {r : R} {p0 p1 : Put} (h : Cam r p0 p1) : Mod.did0 r.x = one r.x.c (r.x.now + 1) 0 r.x.s0 (hE p0 p1) := by
  unfold Mod.did0; rw [h.exa.hears0 h.cal.inv.book.good.c]
theorem Cam.did1 {r : R} {p0 p1 : Put} (h : Cam r p0 p1) : Mod.did1 r.x = one r.x.c (r.x.now + 1) 1 r.x.s1 (hE p1 p0) := by
  unfold Mod.did1; rw [h.exa.hears1 h.cal.inv.book.good.c]

/-- The number that falls. -/
def phi (r : R) (p0 p1 : Put) : Nat := Phi r.x.c r.x.now r.x.s0 r.x.s1 p0 p1
theorem Cam.fall {r : R} {p0 p1 : Put} (h : Cam r p0 p1) (hl : 0 < leftN r) : phi (tkR r) (Mod.did0 r.x).2.1 (Mod.did1 r.x).2.1 + 1 ≤ phi r p0 p1 := by
  obtain ⟨_, t, _⟩ := inv_tick h.cal.inv
  have hc := h.cal.inv.book.good.c
  have hq : r.x.s0.queue ≠ [] ∨ r.x.s1.queue ≠ [] := by
    rw [left_q h.cal.inv.book] at hl
    by_cases z : r.x.s0.queue = []
    · right; intro e; rw [z, e] at hl; simp at hl
    · exact Or.inl z
  have := phi_fall hc h.st hq
  unfold phi
  rw [t.x]
  show Phi r.x.c (r.x.now + 1) (Mod.did0 r.x).1 (Mod.did1 r.x).1 (Mod.did0 r.x).2.1 (Mod.did1 r.x).2.1 + 1 ≤ _
  rw [h.did0, h.did1]
  exact this
theorem Cam.bound {r : R} {p0 p1 : Put} (h : Cam r p0 p1) : phi r p0 p1 + 1 ≤ turnN r.x.c * (leftN r + 1) + 2 * (blksN (r.a.want.drop r.a.told) + blksN (r.b.want.drop r.b.told)) := by
  have hc := h.cal.inv.book.good.c
  have h1 := phi_le hc h.st
  have r0 := rem_blks hc r.x.s0
  have r1 := rem_blks hc r.x.s1
  rw [h.cal.inv.book.a.q] at r0
  rw [h.cal.inv.book.b.q] at r1
  rw [left_q h.cal.inv.book]
  have e : turnT r.x.c = turnN r.x.c := rfl
  rw [e] at h1
  unfold phi
  omega

theorem left_tick {r : R} (h : Inv r) : leftN (tkR r) ≤ leftN r := by
  obtain ⟨_, t, _⟩ := inv_tick h
  unfold leftN
  rw [t.a, t.b, sideN_want, sideN_want, sideN_told, sideN_told]
  omega
theorem blks_tick {r : R} (h : Inv r) : blksN ((tkR r).a.want.drop (tkR r).a.told) ≤ blksN (r.a.want.drop r.a.told) ∧ blksN ((tkR r).b.want.drop (tkR r).b.told) ≤ blksN (r.b.want.drop r.b.told) := by
  obtain ⟨_, t, _⟩ := inv_tick h
  rw [t.a, t.b]
  exact ⟨sideN_blks _ _ _ _, sideN_blks _ _ _ _⟩

/-- Is what goes on young? -/
def Yg (r : R) (p0 p1 : Put) : Prop := ∃ y0 y1, Yng r.x.s0 r.x.s1 p0 p1 y0 y1 ∧ (r.a.told ≠ r.a.mark → y0 = true) ∧ (r.b.told ≠ r.b.mark → y1 = true)
theorem told_is {d : Did} (h : isTold d.2.2 = true) : told d := by
  cases e : d.2.2 with
  | none => rw [e] at h; cases h
  | some ev => rw [e] at h; exact ⟨ev, e, of_decide_eq_true h⟩
theorem fails_is {d : Did} (h : isFail d.2.2 = true) : fails d := by
  cases e : d.2.2 with
  | none => rw [e] at h; cases h
  | some ev => rw [e] at h; exact ⟨ev, e, of_decide_eq_true h⟩
theorem not_up {s : Stn} (h : s.mode = 0) : ¬ up s := by unfold up; omega

theorem yg_first {r : R} (h : Cal r) (m0 : r.a.told = r.a.mark) (m1 : r.b.told = r.b.mark) : Yg (tkR r) (did0 r.x).2.1 (did1 r.x).2.1 ∧ (tkR r).fresh = r.fresh := by
  obtain ⟨_, t, i, _, np⟩ := inv_tick h.inv
  obtain ⟨p0, p1, hp⟩ := h.inv.pts
  constructor
  · refine ⟨decide (¬ up (tkR r).x.s0), decide (¬ up (tkR r).x.s1), ?_, ?_, ?_⟩
    · refine ⟨⟨no_nine h.b0, no_nine h.b1⟩, ?_, ?_, ?_, ?_⟩
      · intro y m; exact absurd (Or.inr m) (of_decide_eq_true y)
      · intro y m; exact absurd (Or.inr m) (of_decide_eq_true y)
      · intro y m; exact absurd (Or.inl m) (of_decide_eq_true y)
      · intro y m; exact absurd (Or.inl m) (of_decide_eq_true y)
    · intro z
      rw [t.a, sideN_told, sideN_mark] at z
      refine decide_eq_true ?_
      rw [t.x]
      cases e : isTold (did0 r.x).2.2 with
      | false => rw [e] at z; simp [m0] at z
      | true => exact not_up (told_queue hp.tok.a (told_is (d := did0 r.x) e)).2.2
    · intro z
      rw [t.b, sideN_told, sideN_mark] at z
      refine decide_eq_true ?_
      rw [t.x]
      cases e : isTold (did1 r.x).2.2 with
      | false => rw [e] at z; simp [m1] at z
      | true => exact not_up (told_queue hp.tok.b (told_is (d := did1 r.x) e)).2.2
  · rw [t.fresh]
    unfold freshN
    simp [m0, m1]
theorem ynew_true (s s' : Stn) : ynew true s s' = true := by
  unfold ynew
  split
  · split <;> rfl
  · rfl
theorem yg_step {r : R} {p0 p1 : Put} (h : Cam r p0 p1) (y : Yg r p0 p1) : Yg (tkR r) (did0 r.x).2.1 (did1 r.x).2.1 ∧ (tkR r).fresh = r.fresh := by
  obtain ⟨_, t, i, _, np⟩ := inv_tick h.cal.inv
  obtain ⟨y0, y1, g, z0, z1⟩ := y
  obtain ⟨f0, f1, g'⟩ := yng_step h.cal.inv.book.good.c h.st g
  rw [← h.did0, ← h.did1] at g'
  rw [← h.did0] at f0
  rw [← h.did1] at f1
  constructor
  · refine ⟨ynew y0 r.x.s0 (did0 r.x).1, ynew y1 r.x.s1 (did1 r.x).1, ?_, ?_, ?_⟩
    · rw [t.x]; exact g'
    · intro z
      rw [t.a, sideN_told, sideN_mark] at z
      cases e : isTold (did0 r.x).2.2 with
      | false => rw [e] at z; simp at z; rw [z0 z]; exact ynew_true _ _
      | true =>
        have := not_up (told_queue h.pts.tok.a (told_is (d := did0 r.x) e)).2.2
        show ynew y0 r.x.s0 (did0 r.x).1 = true
        unfold ynew
        exact if_neg this
    · intro z
      rw [t.b, sideN_told, sideN_mark] at z
      cases e : isTold (did1 r.x).2.2 with
      | false => rw [e] at z; simp at z; rw [z1 z]; exact ynew_true _ _
      | true =>
        have := not_up (told_queue h.pts.tok.b (told_is (d := did1 r.x) e)).2.2
        show ynew y1 r.x.s1 (did1 r.x).1 = true
        unfold ynew
        exact if_neg this
  · rw [t.fresh]
    unfold freshN
    have k0 : (isFail (did0 r.x).2.2 && r.calm && decide (r.a.told ≠ r.a.mark)) = false := by
      by_cases z : r.a.told = r.a.mark
      · simp [z]
      · cases e : isFail (did0 r.x).2.2 with
        | false => rfl
        | true => exact absurd (fails_is e) (f0 (z0 z))
    have k1 : (isFail (did1 r.x).2.2 && r.calm && decide (r.b.told ≠ r.b.mark)) = false := by
      by_cases z : r.b.told = r.b.mark
      · simp [z]
      · cases e : isFail (did1 r.x).2.2 with
        | false => rfl
        | true => exact absurd (fails_is e) (f1 (z1 z))
    rw [k0, k1]
    rfl

/-- The loop of settle. -/
def Lp (r : R) (n : Nat) : Prop :=
  (Cal r ∧ r.a.told = r.a.mark ∧ r.b.told = r.b.mark ∧ turnN r.x.c * (leftN r + 1) + 2 * (blksN (r.a.want.drop r.a.told) + blksN (r.b.want.drop r.b.told)) + 1 ≤ n)
  ∨ (∃ p0 p1, Cam r p0 p1 ∧ Yg r p0 p1 ∧ phi r p0 p1 < n)
theorem Lp.cal {r : R} {n : Nat} (h : Lp r n) : Cal r := by
  rcases h with h | ⟨_, _, h, _⟩
  · exact h.1
  · exact h.cal
theorem Lp.pos {r : R} {n : Nat} (h : Lp r n) : 0 < n := by
  rcases h with h | ⟨_, _, _, _, h⟩
  · have := h.2.2.2; omega
  · omega
theorem Lp.start {r : R} (h : Cal r) (m0 : r.a.told = r.a.mark) (m1 : r.b.told = r.b.mark) : Lp r (boundN r) := by
  refine Or.inl ⟨h, m0, m1, ?_⟩
  unfold boundN
  have : 1 ≤ turnN r.x.c := by unfold turnN; omega
  have e : (leftN r + 2) * turnN r.x.c = turnN r.x.c * (leftN r + 1) + turnN r.x.c := by
    rw [Nat.mul_comm, ← Nat.mul_succ]
  omega
theorem Lp.step {r : R} {n : Nat} (h : Lp r (n + 1)) (hl : 0 < leftN r) : Lp (tkR r) n ∧ (tkR r).fresh = r.fresh := by
  rcases h with ⟨h, m0, m1, hb⟩ | ⟨p0, p1, h, y, hp⟩
  · have c := h.tick
    obtain ⟨y, f⟩ := yg_first h m0 m1
    refine ⟨Or.inr ⟨_, _, c, y, ?_⟩, f⟩
    have b := c.bound
    have l := left_tick h.inv
    have q := blks_tick h.inv
    obtain ⟨_, t, _⟩ := inv_tick h.inv
    have ec : (tkR r).x.c = r.x.c := by rw [t.x]; rfl
    rw [ec] at b
    have := Nat.mul_le_mul_left (turnN r.x.c) (show leftN (tkR r) + 1 ≤ leftN r + 1 by omega)
    omega
  · have c := h.cal.tick
    obtain ⟨y', f⟩ := yg_step h y
    refine ⟨Or.inr ⟨_, _, c, y', ?_⟩, f⟩
    have := h.fall hl
    omega

/-- Silence. -/
theorem kind_may {c : Cfg} {now i : Nat} {s : Stn} {p q : Put} {h : Ans} (hs : StOk c now i s p) (hm : s.mode = 0 ∨ s.mode = 3) (hh : Hears q p h) : kindOf h = 0 ∨ kindOf h = 5 ∨ kindOf h = 6 ∨ kindOf h = 7 ∨ kindOf h = 8 ∨ kindOf h = 9 := by
  rcases hh with ⟨_, rfl⟩ | ⟨_, hy⟩
  · exact Or.inl rfl
  · rcases (put_of hs).2 hm with rfl | ⟨k, rfl, hk⟩
    · cases hy; exact Or.inl rfl
    · rcases hy with rfl | rfl
      · exact Or.inr hk
      · exact Or.inl rfl
theorem sil_tick {r : R} {D : Nat} (h : Inv r) (g : Sil D r.x.s0 r.x.s1) : Sil D (tkR r).x.s0 (tkR r).x.s1 ∧ (tkR r).x.on0 = [] ∧ (tkR r).x.on1 = [] ∧ (tkR r).x.now = r.x.now + 1 ∧ (tkR r).x.c = r.x.c := by
  obtain ⟨p0, p1, hp⟩ := h.pts
  obtain ⟨_, t, _⟩ := inv_tick h
  have a := sil_one (h := hears0 r.x) hp.tok.a g.q0 g.d0 (kind_may hp.tok.b (sil_modes hp.tok.b g.q1) hp.hears0)
  have b := sil_one (h := hears1 r.x) hp.tok.b g.q1 g.d1 (kind_may hp.tok.a (sil_modes hp.tok.a g.q0) hp.hears1)
  rw [t.x]
  refine ⟨⟨a.1, b.1, a.2.2.2.1, b.2.2.2.1⟩, ?_, ?_, rfl, rfl⟩
  · show txOf r.x.c (did0 r.x).2.1 = []
    have : (did0 r.x).2.1 = .nil := a.2.1
    rw [this]; rfl
  · show txOf r.x.c (did1 r.x).2.1 = []
    have : (did1 r.x).2.1 = .nil := b.2.1
    rw [this]; rfl
theorem sil_start {r : R} (h : Inv r) (hl : leftN r = 0) : Sil (r.x.now + r.x.c.lost) r.x.s0 r.x.s1 := by
  obtain ⟨p0, p1, hp⟩ := h.pts
  rw [left_q h.book] at hl
  refine ⟨List.length_eq_zero_iff.1 (by omega), List.length_eq_zero_iff.1 (by omega), fun m => (hp.tok.a.rcv m).2, fun m => (hp.tok.b.rcv m).2⟩
theorem sil_end {r : R} {D : Nat} (h : Inv r) (g : Sil D r.x.s0 r.x.s1) (hD : D ≤ r.x.now) : r.x.s0.mode = 0 ∧ r.x.s1.mode = 0 := by
  obtain ⟨p0, p1, hp⟩ := h.pts
  exact sil_idle hp.tok g hD

end Go.Proofs.YtlbpjcphhocdkabGreatDoor.Run
