/- Plain: one speaks: the two stations together. -/
import Derived.Test.YtlbpjcphhocdkaaTok
namespace Go.Proofs.Ytlbpjcphhocdkaa.Mod

/-- Where nothing is heard and no wait is over a station that waits stays. -/
theorem one_still {c : Cfg} {T i : Nat} {s : Stn} (hm : s.mode = 1 ∨ s.mode = 2 ∨ s.mode = 3) (hd : T ≠ s.due) : one c T i s (.none 0) = (s, .nil, none) := by
  have y := yes_or (s.block + 1)
  have hn : named c T i s (.none 0) = none := by
    unfold named
    rcases hm with h | h | h
    · simp [h, bidding, kindOf]
    · rw [if_neg (by omega), if_pos h]
      unfold sending
      rw [if_neg (show ¬ kindOf (.none 0) = _ by show ¬ (0 = _); omega), if_neg (show ¬ (kindOf (.none 0) = 7 ∨ kindOf (.none 0) = 8 ∨ kindOf (.none 0) = 6) by decide), if_neg (show ¬ kindOf (.none 0) = 9 by decide)]
    · simp [h, receiving]
  unfold one
  rw [hn]
  simp only
  rw [if_neg (fun h => hd h.2), if_neg (by omega)]

/-- What a station that puts q hears, where q is something. -/
theorem own_silence {q p : Put} {h : Ans} (hh : Hears q p h) (hq : q ≠ .nil) : h = .none 0 := by
  rcases hh with ⟨_, h⟩ | ⟨h, _⟩
  · exact h
  · exact absurd h hq

theorem heard_some {q p : Put} {h : Ans} (hh : Hears q p h) (hk : kindOf h ≠ 0) : q = .nil ∧ p ≠ .nil := by
  rcases hh with ⟨_, rfl⟩ | ⟨rfl, hm⟩
  · exact absurd rfl hk
  · refine ⟨rfl, fun hp => ?_⟩
    subst hp
    cases hm
    exact hk rfl

/-- What was put, by the kind that is heard. -/
theorem heard_short {q p : Put} {h : Ans} {k : Nat} (hh : Hears q p h) (hk : kindOf h = k) (h0 : 3 ≤ k) : p = .short k := by
  have := heard_some hh (by omega)
  rcases hh with ⟨_, rfl⟩ | ⟨_, hm⟩
  · simp [kindOf] at hk; omega
  · cases p with
    | nil => exact absurd rfl this.2
    | short j =>
      rcases hm with rfl | rfl
      · simp only [kindOf] at hk; rw [hk]
      · simp only [kindOf] at hk; omega
    | blk b =>
      rcases hm with rfl | rfl | rfl
      · simp only [kindOf] at hk; omega
      · simp only [kindOf] at hk; omega
      · simp only [kindOf] at hk; omega

/-- Whoever puts an answer is Receiving, and its wait began just now. -/
theorem put_answer {c : Cfg} {now i : Nat} {s : Stn} {k : Nat} (hs : StOk c now i s (.short k)) (hk : k = 6 ∨ k = 7 ∨ k = 8) : s.mode = 3 ∧ s.due = now + c.lost := by
  rcases hs.put with h | h | h | h | h | h | h | ⟨b, h, _⟩
  · cases h
  · have := h.1; simp at this; omega
  · have := h.1; simp at this; omega
  · have := h.1; simp at this; omega
  · exact ⟨h.2.1, h.2.2⟩
  · have := h.1; simp at this; omega
  · have := h.1; simp at this; omega
  · cases h

/-- Behind a put the station does not speak by itself, unless it was Idle and put somebody off. -/
theorem quiet_next {c : Cfg} {now i : Nat} {s : Stn} {q : Put} (hc : c.Ok) (hs : StOk c now i s q) (hq : q ≠ .nil) :
    one c (now + 1) i s (.none 0) = (s, .nil, none) ∨ (q = .short 9 ∧ s.mode = 0 ∧ ((one c (now + 1) i s (.none 0)).2.1 = .nil ∨ (one c (now + 1) i s (.none 0)).2.1 = .short 3)) := by
  have p1 := patience_ge hc i 1
  have p2 := patience_ge hc i 2
  have p3 := patience_ge hc i 3
  have e2 : patience c i 2 = c.reply := rfl
  have e3 : patience c i 3 = c.lost := rfl
  rw [e2] at p2
  rw [e3] at p3
  rcases hs.put with h | h | h | h | h | h | h | ⟨b, h⟩
  · exact absurd h hq
  · left; exact one_still (Or.inl h.2.1) (by omega)
  · left; exact one_still (Or.inr (Or.inl h.2.1)) (by omega)
  · left
    unfold one named
    rw [if_neg (by omega), if_neg (by omega), if_neg (by omega)]
    unfold idle
    rw [if_neg (show ¬ kindOf (.none 0) = 3 by decide)]
    simp only
    rw [if_neg (by omega), if_neg (by omega)]
  · left; exact one_still (Or.inr (Or.inr h.2.1)) (by omega)
  · left; exact one_still (Or.inr (Or.inr h.2.1)) (by omega)
  · right
    refine ⟨h.1, h.2, ?_⟩
    unfold one named
    rw [if_neg (by omega), if_neg (by omega), if_neg (by omega)]
    unfold idle
    rw [if_neg (show ¬ kindOf (.none 0) = 3 by decide)]
    simp only
    rw [if_neg (by omega)]
    split
    · right; rfl
    · left; rfl
  · left; exact one_still (Or.inr (Or.inl h.2.1)) (by omega)

theorem gu_blk {c : Cfg} {T : Nat} {s : Stn} (h : 1 ≤ s.tries) (hd : s.due = T + c.reply) : gu c s ≤ T + (c.tries + 2) * c.reply := by
  have := gu_le c s h
  have e : (c.tries + 2) * c.reply = (c.tries + 1) * c.reply + c.reply := by rw [← Nat.succ_mul]
  omega

/-- A station that is Sending behind a tick: it was Bidding and heard Yes0; or it was Sending, and heard an answer, or goes on as before. -/
theorem snd_cases {c : Cfg} {now i : Nat} {s : Stn} {p : Put} {h : Ans} (hs : StOk c now i s p) (hm : (one c (now + 1) i s h).1.mode = 2) :
    (s.mode = 1 ∧ kindOf h = 7 ∧ (one c (now + 1) i s h).1.due = now + 1 + c.reply ∧ 1 ≤ (one c (now + 1) i s h).1.tries)
    ∨ (s.mode = 2 ∧ (kindOf h = 6 ∨ kindOf h = 7 ∨ kindOf h = 8 ∨ kindOf h = 9) ∧ (one c (now + 1) i s h).1.due = now + 1 + c.reply ∧ 1 ≤ (one c (now + 1) i s h).1.tries)
    ∨ (s.mode = 2 ∧ gu c (one c (now + 1) i s h).1 = gu c s) := by
  unfold one named at hm ⊢
  by_cases h1 : s.mode = 1
  · rw [if_pos h1] at hm ⊢
    unfold bidding at hm ⊢
    by_cases k7 : kindOf h = 7
    · left
      rw [if_pos k7] at hm ⊢
      exact ⟨h1, k7, rfl, Nat.le_refl _⟩
    · rw [if_neg k7] at hm ⊢
      by_cases k9 : kindOf h = 9
      · rw [if_pos k9] at hm
        simp only [later] at hm
        split at hm
        · simp [ends] at hm
        · simp [h1] at hm
      · rw [if_neg k9] at hm
        by_cases k3 : kindOf h = 3 ∧ i = 1
        · rw [if_pos k3] at hm
          simp only [answers] at hm
          split at hm <;> simp at hm
        · rw [if_neg k3] at hm
          simp only at hm
          split at hm
          · simp only [over] at hm
            rw [if_neg (by omega)] at hm
            split at hm
            · simp [ends] at hm
            · simp [h1] at hm
          · rw [if_neg (by omega)] at hm
            simp [h1] at hm
  · rw [if_neg h1] at hm ⊢
    by_cases h2 : s.mode = 2
    · have hb := hs.snd h2
      right
      rw [if_pos h2] at hm ⊢
      unfold sending at hm ⊢
      have y := yes_or (s.block + 1)
      by_cases ky : kindOf h = yesN (s.block + 1)
      · rw [if_pos ky] at hm ⊢
        by_cases hnb : s.block + 1 = nblk c (s.queue.headD noMsg)
        · rw [if_pos hnb] at hm
          simp [ends] at hm
        · rw [if_neg hnb]
          left
          exact ⟨h2, by omega, rfl, Nat.le_refl _⟩
      · rw [if_neg ky] at hm ⊢
        by_cases ka : kindOf h = 7 ∨ kindOf h = 8 ∨ kindOf h = 6
        · rw [if_pos ka] at hm ⊢
          by_cases hnb : s.tries > c.tries
          · rw [if_pos hnb] at hm
            simp [ends] at hm
          · rw [if_neg hnb]
            left
            exact ⟨h2, by omega, rfl, by simp [sendBlk]⟩
        · rw [if_neg ka] at hm ⊢
          by_cases k9 : kindOf h = 9
          · rw [if_pos k9] at hm ⊢
            simp only [later] at hm ⊢
            split at hm
            · simp [ends] at hm
            · rename_i hnb
              rw [if_neg hnb]
              left
              exact ⟨h2, by omega, by simp [patience, h2], hb.2.2.1⟩
          · rw [if_neg k9] at hm ⊢
            right
            refine ⟨h2, ?_⟩
            simp only at hm ⊢
            split at hm
            · rename_i hx
              rw [if_pos hx]
              simp only [over] at hm ⊢
              rw [if_neg (by omega)] at hm ⊢
              split at hm
              · simp [ends] at hm
              · rename_i hy
                rw [if_neg hy]
                have ep : patience c i s.mode = c.reply := by rw [h2]; rfl
                rw [ep]
                cases hf : s.free
                · have ht : s.tries ≤ c.tries := by
                    rcases Nat.lt_or_ge c.tries s.tries with h | h
                    · exact absurd ⟨hf, h⟩ hy
                    · exact h
                  have := gu_try c s hf ht (now + 1) hx.2
                  simpa using this
                · have := gu_free c s hf (now + 1) hx.2
                  simpa using this
            · rename_i hx
              rw [if_neg hx, if_neg (by omega)]
    · exfalso
      rw [if_neg h2] at hm
      by_cases h3 : s.mode = 3
      · rw [if_pos h3] at hm
        unfold receiving at hm
        cases h with
        | data a b d e =>
          simp only [takes] at hm
          split at hm
          · simp [h3] at hm
          · split at hm <;> simp [h3] at hm
        | none n =>
          simp only at hm
          by_cases n1 : n = 1
          · simp [n1, h3] at hm
          · rw [if_neg n1] at hm
            by_cases n4 : n = 4
            · simp [n4, h3] at hm
            · rw [if_neg n4] at hm
              by_cases n3 : n = 3
              · rw [if_pos n3] at hm
                simp only [answers] at hm
                split at hm <;> simp at hm
              · rw [if_neg n3] at hm
                by_cases n5 : n = 5
                · simp [n5] at hm
                · rw [if_neg n5] at hm
                  simp only at hm
                  split at hm
                  · simp [over, h3] at hm
                  · rw [if_neg (by omega)] at hm
                    simp [h3] at hm
      · rw [if_neg h3] at hm
        have h0 : s.mode = 0 := by have := hs.mode; omega
        unfold idle at hm
        by_cases k3 : kindOf h = 3
        · rw [if_pos k3] at hm
          simp only [answers] at hm
          split at hm <;> simp at hm
        · rw [if_neg k3] at hm
          simp only at hm
          rw [if_neg (by omega)] at hm
          split at hm
          · simp [bids] at hm
          · simp [h0] at hm
end Go.Proofs.Ytlbpjcphhocdkaa.Mod
