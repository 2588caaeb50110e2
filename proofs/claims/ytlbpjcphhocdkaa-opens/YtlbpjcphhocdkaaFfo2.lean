/- Plain: what is delivered is the message under way, unchanged, once; Sent is told of what was delivered: kept by a tick. -/
import Derived.Test.YtlbpjcphhocdkaaFfo1
namespace Go.Proofs.Ytlbpjcphhocdkaa.Mod

def mine (s : Stn) : Msg := s.queue.headD noMsg

/-- The block under way has not come over, or it has. -/
def Under (c : Cfg) (s t : Stn) (p q : Put) (here : Bool) : Prop :=
  s.block < nblk c (mine s) ∧
  ((t.count = s.block ∧ t.got = firsts c (mine s) s.block ∧ here = false ∧ (∀ b, p = .blk b → b = blkAt c (mine s) s.block) ∧ (∀ k, q = .short k → k = 7 ∨ k = 8 → k = yesN s.block))
   ∨ (t.count = s.block + 1 ∧ (s.block + 1 = nblk c (mine s) → t.got = [] ∧ here = true) ∧ (s.block + 1 ≠ nblk c (mine s) → t.got = firsts c (mine s) (s.block + 1) ∧ here = false) ∧ (∀ b, p ≠ .blk b) ∧ (∀ k, q = .short k → k = yesN (s.block + 1) ∨ k = 9)))

/-- One direction: from the station s to the station t. here: the message under way has been delivered. -/
structure Dir (c : Cfg) (s t : Stn) (p q : Put) (here : Bool) : Prop where
  msgs : ∀ m ∈ s.queue, MsgOk m
  off : s.mode ≠ 2 → here = false
  bid : s.mode = 1 → q = .short 7 → t.count = 0 ∧ t.got = []
  snd : s.mode = 2 → Under c s t p q here

theorem yes_ne (n : Nat) : yesN n ≠ yesN (n + 1) := by unfold yesN; omega

theorem snd_out {c : Cfg} {T i : Nat} {s : Stn} {h : Ans} (hm : s.mode = 2) :
    (kindOf h = yesN (s.block + 1) ∧ s.block + 1 = nblk c (mine s) ∧ one c T i s h = ends T i s 2)
    ∨ (kindOf h = yesN (s.block + 1) ∧ s.block + 1 ≠ nblk c (mine s) ∧ one c T i s h = sendBlk c T { s with block := s.block + 1, tries := 1, off := 0, free := false })
    ∨ (kindOf h ≠ yesN (s.block + 1) ∧ (kindOf h = 7 ∨ kindOf h = 8 ∨ kindOf h = 6) ∧ (one c T i s h = ends T i s 3 ∨ one c T i s h = sendBlk c T { s with tries := s.tries + 1, free := false }))
    ∨ (kindOf h = 9 ∧ one c T i s h = later c T i s)
    ∨ (¬ (kindOf h = 6 ∨ kindOf h = 7 ∨ kindOf h = 8 ∨ kindOf h = 9) ∧ ((T = s.due ∧ one c T i s h = over c T i s) ∨ (T ≠ s.due ∧ one c T i s h = (s, .nil, none)))) := by
  have y := yes_or (s.block + 1)
  unfold one named
  rw [if_neg (show ¬ s.mode = 1 by omega), if_pos hm]
  unfold sending mine
  by_cases ky : kindOf h = yesN (s.block + 1)
  · rw [if_pos ky]
    by_cases hn : s.block + 1 = nblk c (s.queue.headD noMsg)
    · left; rw [if_pos hn]; exact ⟨ky, hn, rfl⟩
    · right; left; rw [if_neg hn]; exact ⟨ky, hn, rfl⟩
  · rw [if_neg ky]
    right; right
    by_cases ka : kindOf h = 7 ∨ kindOf h = 8 ∨ kindOf h = 6
    · left
      rw [if_pos ka]
      refine ⟨ky, ka, ?_⟩
      by_cases hx : s.tries > c.tries
      · left; rw [if_pos hx]
      · right; rw [if_neg hx]
    · right
      rw [if_neg ka]
      by_cases k9 : kindOf h = 9
      · left; rw [if_pos k9]; exact ⟨k9, rfl⟩
      · right
        rw [if_neg k9]
        refine ⟨by omega, ?_⟩
        by_cases hx : T = s.due
        · left
          refine ⟨hx, ?_⟩
          simp only
          rw [if_pos ⟨by omega, hx⟩]
        · right
          refine ⟨hx, ?_⟩
          simp only
          rw [if_neg (fun h => hx h.2), if_neg (by omega)]

/-- Yes0 is put in answer to a bid, or to a block or an Ask. -/
theorem put_seven {c : Cfg} {T j : Nat} {t : Stn} {g : Ans} (hp : (one c T j t g).2.1 = .short 7) : ((one c T j t g).1.count = 0 ∧ (one c T j t g).1.got = []) ∨ kindOf g = 2 ∨ kindOf g = 4 := by
  unfold one named at hp ⊢
  by_cases h1 : t.mode = 1
  · rw [if_pos h1] at hp ⊢
    unfold bidding at hp ⊢
    by_cases k7 : kindOf g = 7
    · rw [if_pos k7] at hp; simp [sendBlk] at hp
    · rw [if_neg k7] at hp ⊢
      by_cases k9 : kindOf g = 9
      · rw [if_pos k9] at hp
        simp only [later] at hp
        split at hp
        · simp [ends, h1] at hp
        · simp at hp
      · rw [if_neg k9] at hp ⊢
        by_cases k3 : kindOf g = 3 ∧ j = 1
        · rw [if_pos k3]
          left
          simp only [answers]
          split <;> simp
        · rw [if_neg k3] at hp
          simp only at hp
          split at hp
          · simp only [over] at hp
            split at hp
            · simp at hp
            · split at hp
              · simp [ends, h1] at hp
              · simp [h1] at hp
          · rw [if_neg (by omega)] at hp
            simp at hp
  · rw [if_neg h1] at hp ⊢
    by_cases h2 : t.mode = 2
    · rw [if_pos h2] at hp
      exfalso
      have o := snd_out (c := c) (T := T) (i := j) (h := g) h2
      unfold one named at o
      rw [if_neg h1, if_pos h2] at o
      rcases o with ⟨_, _, e⟩ | ⟨_, _, e⟩ | ⟨_, _, e | e⟩ | ⟨_, e⟩ | ⟨_, ⟨_, e⟩ | ⟨_, e⟩⟩
      · rw [e] at hp; simp [ends, h2] at hp
      · rw [e] at hp; simp [sendBlk] at hp
      · rw [e] at hp; simp [ends, h2] at hp
      · rw [e] at hp; simp [sendBlk] at hp
      · rw [e] at hp
        simp only [later] at hp
        split at hp
        · simp [ends, h2] at hp
        · simp at hp
      · rw [e] at hp
        simp only [over] at hp
        split at hp
        · simp at hp
        · split at hp
          · simp [ends, h2] at hp
          · simp at hp
      · rw [e] at hp; simp at hp
    · rw [if_neg h2] at hp ⊢
      by_cases h3 : t.mode = 3
      · rw [if_pos h3] at hp ⊢
        unfold receiving at hp ⊢
        cases g with
        | data a b d e => right; left; rfl
        | none n =>
          simp only at hp ⊢
          by_cases n1 : n = 1
          · rw [if_pos n1] at hp; simp at hp
          · rw [if_neg n1] at hp ⊢
            by_cases n4 : n = 4
            · right; right; exact n4
            · rw [if_neg n4] at hp ⊢
              by_cases n3 : n = 3
              · rw [if_pos n3]
                left
                simp only [answers]
                split <;> simp
              · rw [if_neg n3] at hp
                by_cases n5 : n = 5
                · rw [if_pos n5] at hp; simp at hp
                · rw [if_neg n5] at hp
                  simp only at hp
                  split at hp
                  · simp [over, h3] at hp
                  · rw [if_neg (by omega)] at hp
                    simp at hp
      · rw [if_neg h3] at hp ⊢
        unfold idle at hp ⊢
        by_cases k3 : kindOf g = 3
        · rw [if_pos k3]
          left
          simp only [answers]
          split <;> simp
        · rw [if_neg k3] at hp
          simp only at hp
          split at hp
          · simp only [over] at hp
            split at hp
            · simp at hp
            · split at hp
              · simp only [ends] at hp
                split at hp <;> simp at hp
              · simp at hp
          · split at hp
            · simp [bids] at hp
            · simp at hp

/-- A block, or an Ask, is put by who is Sending. -/
theorem heard_snd {c : Cfg} {now i : Nat} {s : Stn} {p q : Put} {g : Ans} (hs : StOk c now i s p) (hh : Hears q p g) (hk : kindOf g = 2 ∨ kindOf g = 4) (hn : ∀ n, p = .short n → n ≠ 2) : s.mode = 2 := by
  rcases hh with ⟨_, rfl⟩ | ⟨_, hm⟩
  · simp [kindOf] at hk
  · cases p with
    | nil => cases hm; simp [kindOf] at hk
    | short n =>
      have hn := hn n rfl
      rcases hm with rfl | rfl
      · simp only [kindOf] at hk
        have e4 : n = 4 := by omega
        subst e4
        rcases hs.put with h | h | h | h | h | h | h | ⟨b, h, _⟩
        · cases h
        · have := h.1; simp at this
        · exact h.2.1
        · have := h.1; simp at this
        · have := h.1; simp at this
        · have := h.1; simp at this
        · have := h.1; simp at this
        · cases h
      · simp [kindOf] at hk
    | blk b =>
      rcases hs.put with h | h | h | h | h | h | h | ⟨b', h⟩
      · cases h
      · have := h.1; cases this
      · have := h.1; cases this
      · have := h.1; cases this
      · rcases h.1 with h | h | h <;> cases h
      · have := h.1; cases this
      · have := h.1; cases this
      · exact h.2.1
theorem put_not_two {c : Cfg} {now i : Nat} {s : Stn} {p : Put} (hs : StOk c now i s p) : ∀ n, p = .short n → n ≠ 2 := by
  intro n hp
  subst hp
  rcases hs.put with h | h | h | h | h | h | h | ⟨b, h, _⟩
  · cases h
  · have := h.1; simp at this; omega
  · have := h.1; simp at this; omega
  · have := h.1; simp at this; omega
  · rcases h.1 with h | h | h <;> (simp at h; omega)
  · have := h.1; simp at this; omega
  · have := h.1; simp at this; omega
  · cases h
end Go.Proofs.Ytlbpjcphhocdkaa.Mod
