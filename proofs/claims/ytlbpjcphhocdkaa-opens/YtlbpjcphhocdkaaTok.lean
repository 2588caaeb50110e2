/- Plain: one speaks: where both stations have something on the line both bid; where one is Sending the other is Receiving; whatever is lost or torn. -/
import Derived.Test.YtlbpjcphhocdkaaMod
namespace Go.Proofs.Ytlbpjcphhocdkaa.Mod

/-- What may be heard of what was put, whatever was lost or cut, or (in a block) turned. -/
def May : Put → Ans → Prop
  | .nil, h => h = .none 0
  | .short k, h => h = .none k ∨ h = .none 0
  | .blk b, h => h = .data b.head b.parts b.clear b.last ∨ h = .none 0 ∨ h = .none 1
/-- .. by the station that put q itself. -/
def Hears (q p : Put) (h : Ans) : Prop := (q ≠ .nil ∧ h = .none 0) ∨ (q = .nil ∧ May p h)

/-- The tick in which a sender gives up that hears nothing more. -/
def gu (c : Cfg) (s : Stn) : Nat := s.due + c.reply * ((if s.free then 1 else 0) + (c.tries + 1 - s.tries))

theorem gu_le (c : Cfg) (s : Stn) (h : 1 ≤ s.tries) : gu c s ≤ s.due + (c.tries + 1) * c.reply := by
  unfold gu
  have : (if s.free then 1 else 0) + (c.tries + 1 - s.tries) ≤ c.tries + 1 := by split <;> omega
  have := Nat.mul_le_mul_left c.reply this
  rw [Nat.mul_comm (c.tries + 1)]
  omega
theorem gu_ge (c : Cfg) (s : Stn) : s.due ≤ gu c s := by unfold gu; omega
theorem gu_free (c : Cfg) (s : Stn) (h : s.free = true) (T : Nat) (hT : T = s.due) : gu c { s with free := false, due := T + c.reply } = gu c s := by
  subst hT
  unfold gu
  simp only [h, if_true, Bool.false_eq_true, if_false, Nat.zero_add, Nat.mul_add, Nat.mul_one]
  omega
theorem gu_try (c : Cfg) (s : Stn) (h : s.free = false) (ht : s.tries ≤ c.tries) (T : Nat) (hT : T = s.due) : gu c { s with tries := s.tries + 1, free := false, due := T + c.reply } = gu c s := by
  subst hT
  unfold gu
  simp only [h, Bool.false_eq_true, if_false, Nat.zero_add]
  have : c.tries + 1 - s.tries = (c.tries + 1 - (s.tries + 1)) + 1 := by omega
  rw [this, Nat.mul_add, Nat.mul_one]
  omega

/-- A station by itself, behind the tick now in which it put p. -/
structure StOk (c : Cfg) (now i : Nat) (s : Stn) (p : Put) : Prop where
  mode : s.mode ≤ 3
  bid : s.mode = 1 → now < s.due ∧ s.due ≤ now + patience c i 1 ∧ 1 ≤ s.tries ∧ s.tries ≤ c.tries + 1
  snd : s.mode = 2 → now < s.due ∧ s.due ≤ now + c.reply ∧ 1 ≤ s.tries ∧ s.tries ≤ c.tries + 1
  rcv : s.mode = 3 → now < s.due ∧ s.due ≤ now + c.lost
  que : s.mode = 1 ∨ s.mode = 2 → s.queue ≠ []
  put : p = .nil ∨ (p = .short 3 ∧ s.mode = 1 ∧ s.due = now + patience c i 1) ∨ (p = .short 4 ∧ s.mode = 2 ∧ s.due = now + c.reply) ∨ (p = .short 5 ∧ s.mode = 0 ∧ s.rest = now + 3)
    ∨ ((p = .short 6 ∨ p = .short 7 ∨ p = .short 8) ∧ s.mode = 3 ∧ s.due = now + c.lost) ∨ (p = .short 9 ∧ s.mode = 3 ∧ s.due = now + c.lost) ∨ (p = .short 9 ∧ s.mode = 0) ∨ (∃ b, p = .blk b ∧ s.mode = 2 ∧ s.due = now + c.reply)

theorem patience_ge {c : Cfg} (h : c.Ok) (i m : Nat) : 3 ≤ patience c i m := by
  have := h.first; have := h.second; have := h.reply; have := h.lost
  unfold patience
  have : 2 ≤ (c.tries + 2) * c.reply := Nat.le_trans (show 2 ≤ 2 * 3 by decide) (Nat.mul_le_mul (by omega) (by omega))
  split
  · omega
  · split
    · omega
    · split <;> omega

theorem yes_or (n : Nat) : yesN n = 7 ∨ yesN n = 8 := by unfold yesN; omega

/-- What each step of a station leaves. -/
theorem ends_ok {c : Cfg} {now i : Nat} {s : Stn} {k : Nat} : StOk c now i (ends now i s k).1 (ends now i s k).2.1 ∧ (ends now i s k).1.mode = 0 := by
  refine ⟨⟨by simp [ends], by simp [ends], by simp [ends], by simp [ends], by simp [ends], ?_⟩, rfl⟩
  unfold ends
  by_cases h : s.mode = 2
  · simp only [h, if_true]
    right; right; right; left
    simp
  · simp only [h, if_false]
    left; trivial
theorem answers_ok {c : Cfg} {now i : Nat} {s : Stn} (hc : c.Ok) : StOk c now i (answers c now s).1 (answers c now s).2.1 ∧ ((answers c now s).1.mode = 0 ∨ (answers c now s).1.mode = 3) := by
  have hl := patience_ge hc 0 3
  have : patience c 0 3 = c.lost := rfl
  rw [this] at hl
  unfold answers
  by_cases h : s.busy = true
  · rw [if_pos h]
    refine ⟨⟨by simp, by simp, by simp, by simp, by simp, ?_⟩, Or.inl rfl⟩
    right; right; right; right; right; right; left
    simp
  · rw [if_neg h]
    refine ⟨⟨by simp, by simp, by simp, ?_, by simp, ?_⟩, Or.inr rfl⟩
    · simp; omega
    · right; right; right; right; left
      simp
theorem sendBlk_ok {c : Cfg} {now i : Nat} {s : Stn} (hc : c.Ok) (hm : s.mode = 2) (ht : 1 ≤ s.tries ∧ s.tries ≤ c.tries + 1) (hq : s.queue ≠ []) : StOk c now i (sendBlk c now s).1 (sendBlk c now s).2.1 := by
  have := hc.reply
  unfold sendBlk
  refine ⟨by simp [hm], by simp [hm], ?_, by simp [hm], fun _ => hq, ?_⟩
  · intro _; simp; omega
  · right; right; right; right; right; right; right
    exact ⟨_, rfl, hm, rfl⟩

theorem later_ok {c : Cfg} {now i : Nat} {s : Stn} (hc : c.Ok) (hm : s.mode = 1 ∨ s.mode = 2) (ht : 1 ≤ s.tries ∧ s.tries ≤ c.tries + 1) (hq : s.queue ≠ []) : StOk c now i (later c now i s).1 (later c now i s).2.1 ∧ ((later c now i s).1.mode = 0 ∨ (later c now i s).1.mode = s.mode ∧ (later c now i s).2.1 = .nil) := by
  have hp := patience_ge hc i s.mode
  unfold later
  split
  · exact ⟨ends_ok.1, Or.inl rfl⟩
  · refine ⟨⟨?_, ?_, ?_, ?_, fun _ => hq, Or.inl rfl⟩, Or.inr ⟨rfl, rfl⟩⟩
    · rcases hm with h | h <;> simp [h]
    · intro h1
      simp only at h1 ⊢
      rw [h1] at hp ⊢
      omega
    · intro h1
      simp only at h1 ⊢
      rw [h1] at hp ⊢
      have : patience c i 2 = c.reply := rfl
      rw [this] at hp ⊢
      omega
    · intro h1
      simp only at h1
      omega
theorem over_ok {c : Cfg} {now i : Nat} {s : Stn} (hc : c.Ok) (hm : s.mode = 1 ∨ s.mode = 2 ∨ s.mode = 3) (ht : s.mode ≠ 3 → 1 ≤ s.tries ∧ s.tries ≤ c.tries + 1) (hq : s.mode ≠ 3 → s.queue ≠ []) : StOk c now i (over c now i s).1 (over c now i s).2.1 ∧ ((over c now i s).1.mode = 0 ∨ (over c now i s).1.mode = s.mode ∧ s.mode ≠ 3) := by
  have hp := patience_ge hc i s.mode
  unfold over
  by_cases h3 : s.mode = 3
  · rw [if_pos h3]
    exact ⟨⟨by simp, by simp, by simp, by simp, by simp, Or.inl rfl⟩, Or.inl rfl⟩
  · rw [if_neg h3]
    have ht := ht h3
    have hq := hq h3
    split
    · exact ⟨ends_ok.1, Or.inl rfl⟩
    · rename_i hx
      have hx' : s.free = true ∨ s.tries ≤ c.tries := by
        cases hf : s.free
        · right
          rcases Nat.lt_or_ge c.tries s.tries with h | h
          · exact absurd ⟨hf, h⟩ hx
          · exact h
        · exact Or.inl rfl
      have htt : 1 ≤ (if s.free = true then s.tries else s.tries + 1) ∧ (if s.free = true then s.tries else s.tries + 1) ≤ c.tries + 1 := by
        split
        · exact ht
        · rename_i hf
          rcases hx' with h | h
          · exact absurd h hf
          · omega
      have hm' : s.mode = 1 ∨ s.mode = 2 := by omega
      refine ⟨⟨?_, ?_, ?_, ?_, fun _ => hq, ?_⟩, Or.inr ⟨rfl, h3⟩⟩
      · rcases hm' with h | h <;> simp [h]
      · intro h1
        simp only at h1 ⊢
        rw [h1] at hp ⊢
        omega
      · intro h1
        simp only at h1 ⊢
        rw [h1] at hp ⊢
        have : patience c i 2 = c.reply := rfl
        rw [this] at hp ⊢
        omega
      · intro h1
        simp only at h1
        omega
      · rcases hm' with h | h
        · right; left
          simp only [h]
          simp
        · right; right; left
          simp only [h]
          simp
          rfl
theorem bids_ok {c : Cfg} {now i : Nat} {s : Stn} (hc : c.Ok) (hq : s.queue ≠ []) : StOk c now i (bids c now i s).1 (bids c now i s).2.1 := by
  have hp := patience_ge hc i 1
  unfold bids
  refine ⟨by simp, ?_, by simp, by simp, fun _ => hq, ?_⟩
  · intro _; simp; omega
  · right; left; simp
theorem tells_short (s : Stn) : tells s = .short 9 ∨ tells s = .short 7 ∨ tells s = .short 8 := by
  unfold tells
  split
  · exact Or.inl rfl
  · rcases yes_or s.count with h | h <;> simp [h]
theorem rcv_ok {c : Cfg} {now i : Nat} {s : Stn} {p : Put} (hc : c.Ok) (hm : s.mode = 3) (hd : s.due = now + c.lost) (hp : p = .short 6 ∨ p = .short 7 ∨ p = .short 8 ∨ p = .short 9) : StOk c now i s p := by
  have hl := patience_ge hc 0 3
  have : patience c 0 3 = c.lost := rfl
  rw [this] at hl
  refine ⟨by omega, by omega, by omega, fun _ => by omega, by omega, ?_⟩
  rcases hp with h | h | h | h
  · right; right; right; right; left; exact ⟨Or.inl h, hm, hd⟩
  · right; right; right; right; left; exact ⟨Or.inr (Or.inl h), hm, hd⟩
  · right; right; right; right; left; exact ⟨Or.inr (Or.inr h), hm, hd⟩
  · right; right; right; right; right; left; exact ⟨h, hm, hd⟩
theorem takes_ok {c : Cfg} {now i : Nat} {s : Stn} {b : Bk} (hc : c.Ok) (hm : s.mode = 3) : StOk c now i (takes c now i s b).1 (takes c now i s b).2.1 ∧ (takes c now i s b).1.mode = 3 := by
  unfold takes
  split
  · exact ⟨rcv_ok hc hm rfl (Or.inl rfl), hm⟩
  · split
    · refine ⟨rcv_ok hc hm rfl ?_, hm⟩
      rcases tells_short { s with count := s.count + 1 } with h | h | h <;> simp [h]
    · refine ⟨rcv_ok hc hm rfl ?_, hm⟩
      rcases tells_short { s with count := s.count + 1 } with h | h | h <;> simp [h]

theorem stay_ok {c : Cfg} {now i : Nat} {s : Stn} {p : Put} (hs : StOk c now i s p) (hd : s.mode ≠ 0 → now + 1 ≠ s.due) : StOk c (now + 1) i s .nil := by
  refine ⟨hs.mode, fun h => ?_, fun h => ?_, fun h => ?_, hs.que, Or.inl rfl⟩
  · have := hs.bid h; have := hd (by omega); omega
  · have := hs.snd h; have := hd (by omega); omega
  · have := hs.rcv h; have := hd (by omega); omega

/-- A tick leaves each station so. -/
theorem one_ok {c : Cfg} {now i : Nat} {s : Stn} {p : Put} {h : Ans} (hc : c.Ok) (hs : StOk c now i s p) : StOk c (now + 1) i (one c (now + 1) i s h).1 (one c (now + 1) i s h).2.1 := by
  unfold one named
  by_cases h1 : s.mode = 1
  · have hb := hs.bid h1
    have hq := hs.que (Or.inl h1)
    rw [if_pos h1]
    unfold bidding
    split
    · rename_i d hd
      split at hd
      · cases hd
        exact sendBlk_ok hc rfl (by simp) hq
      · split at hd
        · cases hd
          exact (later_ok hc (Or.inl h1) ⟨hb.2.2.1, hb.2.2.2⟩ hq).1
        · split at hd
          · cases hd
            exact (answers_ok hc).1
          · cases hd
    · split
      · exact (over_ok hc (Or.inl h1) (fun _ => ⟨hb.2.2.1, hb.2.2.2⟩) (fun _ => hq)).1
      · rename_i hx
        split
        · omega
        · exact stay_ok hs (fun h0 e => hx ⟨h0, e⟩)
  · rw [if_neg h1]
    by_cases h2 : s.mode = 2
    · have hb := hs.snd h2
      have hq := hs.que (Or.inr h2)
      rw [if_pos h2]
      unfold sending
      split
      · rename_i d hd
        split at hd
        · split at hd
          · cases hd; exact ends_ok.1
          · cases hd; exact sendBlk_ok hc h2 (by simp) hq
        · split at hd
          · split at hd
            · cases hd; exact ends_ok.1
            · cases hd; exact sendBlk_ok hc h2 (by simp; omega) hq
          · split at hd
            · cases hd
              exact (later_ok hc (Or.inr h2) ⟨hb.2.2.1, hb.2.2.2⟩ hq).1
            · cases hd
      · split
        · exact (over_ok hc (Or.inr (Or.inl h2)) (fun _ => ⟨hb.2.2.1, hb.2.2.2⟩) (fun _ => hq)).1
        · rename_i hx
          split
          · omega
          · exact stay_ok hs (fun h0 e => hx ⟨h0, e⟩)
    · rw [if_neg h2]
      by_cases h3 : s.mode = 3
      · have hb := hs.rcv h3
        rw [if_pos h3]
        unfold receiving
        split
        · rename_i d hd
          cases h with
          | data hd0 ps cl la => cases hd; exact (takes_ok hc h3).1
          | none n =>
            simp only at hd
            split at hd
            · cases hd; exact rcv_ok hc h3 rfl (Or.inl rfl)
            · split at hd
              · cases hd
                refine rcv_ok hc h3 rfl ?_
                rcases tells_short s with h | h | h <;> simp [h]
              · split at hd
                · cases hd; exact (answers_ok hc).1
                · split at hd
                  · cases hd
                    exact ⟨by simp, by simp, by simp, by simp, by simp, Or.inl rfl⟩
                  · cases hd
        · split
          · exact (over_ok hc (Or.inr (Or.inr h3)) (fun h => absurd h3 h) (fun h => absurd h3 h)).1
          · rename_i hx
            split
            · omega
            · exact stay_ok hs (fun h0 e => hx ⟨h0, e⟩)
      · rw [if_neg h3]
        have h0 : s.mode = 0 := by have := hs.mode; omega
        unfold idle
        split
        · rename_i d hd
          split at hd
          · cases hd; exact (answers_ok hc).1
          · cases hd
        · split
          · omega
          · split
            · rename_i hx
              exact bids_ok hc hx.2.1
            · exact stay_ok hs (fun h => absurd h0 h)

end Go.Proofs.Ytlbpjcphhocdkaa.Mod
