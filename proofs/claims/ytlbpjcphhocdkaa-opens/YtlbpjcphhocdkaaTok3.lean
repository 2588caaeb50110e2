/- Plain: one speaks: a tick keeps it so. -/
import Derived.Test.YtlbpjcphhocdkaaTok2
namespace Go.Proofs.Ytlbpjcphhocdkaa.Mod

theorem rcv_keep {c : Cfg} {now j : Nat} {t : Stn} {q : Put} {g : Ans} (ht : StOk c now j t q) (hm : t.mode = 3) (hg : kindOf g = 0 ∨ kindOf g = 1 ∨ kindOf g = 2 ∨ kindOf g = 4) (hd : now + 1 ≠ t.due) :
    (one c (now + 1) j t g).1.mode = 3 ∧ t.due ≤ (one c (now + 1) j t g).1.due := by
  have hb := ht.rcv hm
  unfold one named
  rw [if_neg (by omega), if_neg (by omega), if_pos hm]
  unfold receiving
  cases g with
  | data a b d e =>
    simp only [takes]
    split
    · exact ⟨hm, by show t.due ≤ now + 1 + c.lost; omega⟩
    · split
      · exact ⟨hm, by show t.due ≤ now + 1 + c.lost; omega⟩
      · exact ⟨hm, by show t.due ≤ now + 1 + c.lost; omega⟩
  | none n =>
    have hn : n = 0 ∨ n = 1 ∨ n = 2 ∨ n = 4 := hg
    simp only
    by_cases n1 : n = 1
    · rw [if_pos n1]
      exact ⟨hm, by show t.due ≤ now + 1 + c.lost; omega⟩
    · rw [if_neg n1]
      by_cases n4 : n = 4
      · rw [if_pos n4]
        exact ⟨hm, by show t.due ≤ now + 1 + c.lost; omega⟩
      · rw [if_neg n4, if_neg (by omega), if_neg (by omega)]
        simp only
        rw [if_neg (fun h => hd h.2), if_neg (by omega)]
        exact ⟨hm, Nat.le_refl _⟩

/-- What a station that is Sending has put. -/
theorem put_snd {c : Cfg} {now i : Nat} {s : Stn} {p : Put} (hs : StOk c now i s p) (hm : s.mode = 2) : p = .nil ∨ p = .short 4 ∨ ∃ b, p = .blk b := by
  rcases hs.put with h | h | h | h | h | h | h | ⟨b, h⟩
  · exact Or.inl h
  · omega
  · exact Or.inr (Or.inl h.1)
  · omega
  · omega
  · omega
  · omega
  · exact Or.inr (Or.inr ⟨b, h.1⟩)
theorem heard_of_snd {c : Cfg} {now i : Nat} {s : Stn} {p q : Put} {g : Ans} (hs : StOk c now i s p) (hm : s.mode = 2) (hh : Hears q p g) : kindOf g = 0 ∨ kindOf g = 1 ∨ kindOf g = 2 ∨ kindOf g = 4 := by
  rcases hh with ⟨_, rfl⟩ | ⟨_, hy⟩
  · exact Or.inl rfl
  · rcases put_snd hs hm with rfl | rfl | ⟨b, rfl⟩
    · cases hy; exact Or.inl rfl
    · rcases hy with rfl | rfl
      · exact Or.inr (Or.inr (Or.inr rfl))
      · exact Or.inl rfl
    · rcases hy with rfl | rfl | rfl
      · exact Or.inr (Or.inr (Or.inl rfl))
      · exact Or.inl rfl
      · exact Or.inr (Or.inl rfl)

/-- Who is Sending has the other Receiving, for longer. -/
def Kept (c : Cfg) (s t : Stn) : Prop := s.mode = 2 → t.mode = 3 ∧ gu c s < t.due

theorem kept_step {c : Cfg} {now i j : Nat} {s t : Stn} {p q : Put} {h g : Ans} (hc : c.Ok) (hs : StOk c now i s p) (ht : StOk c now j t q) (hk : Kept c s t) (hh : Hears p q h) (hg : Hears q p g) :
    Kept c (one c (now + 1) i s h).1 (one c (now + 1) j t g).1 := by
  intro hm
  have hl := hc.lost
  have p3 := patience_ge hc 0 3
  have e3 : patience c 0 3 = c.lost := rfl
  rw [e3] at p3
  have ans : ∀ k, q = .short k → t.mode = 3 → t.due = now + c.lost → (one c (now + 1) i s h).1.due = now + 1 + c.reply → 1 ≤ (one c (now + 1) i s h).1.tries → (one c (now + 1) j t g).1.mode = 3 ∧ gu c (one c (now + 1) i s h).1 < (one c (now + 1) j t g).1.due := by
    intro k hq m3 d3 hd h1
    have g0 : g = .none 0 := own_silence hg (by rw [hq]; simp)
    have e : one c (now + 1) j t g = (t, .nil, none) := by rw [g0]; exact one_still (Or.inr (Or.inr m3)) (by omega)
    rw [e]
    have := gu_blk h1 hd
    exact ⟨m3, by show gu c _ < t.due; omega⟩
  rcases snd_cases hs hm with ⟨m1, k7, hd, h1⟩ | ⟨m2, kk, hd, h1⟩ | ⟨m2, he⟩
  · have hq := heard_short hh k7 (by omega)
    subst hq
    have a := put_answer ht (Or.inr (Or.inl rfl))
    exact ans 7 rfl a.1 a.2 hd h1
  · obtain ⟨m3, hgu⟩ := hk m2
    obtain ⟨k, hkk, hkr⟩ : ∃ k, kindOf h = k ∧ (k = 6 ∨ k = 7 ∨ k = 8 ∨ k = 9) := ⟨_, rfl, kk⟩
    have hq := heard_short hh hkk (by omega)
    subst hq
    have d3 : t.due = now + c.lost := by
      rcases hkr with r | r | r | r
      · subst r; exact (put_answer ht (by omega)).2
      · subst r; exact (put_answer ht (by omega)).2
      · subst r; exact (put_answer ht (by omega)).2
      · subst r
        rcases ht.put with h | h | h | h | h | h | h | ⟨b, h, _⟩
        · cases h
        · have := h.1; simp at this
        · have := h.1; simp at this
        · have := h.1; simp at this
        · have := h.1; simp at this
        · exact h.2.2
        · omega
        · cases h
    exact ans k rfl m3 d3 hd h1
  · obtain ⟨m3, hgu⟩ := hk m2
    have hb := hs.snd m2
    have g1 := gu_ge c s
    have r := rcv_keep ht m3 (heard_of_snd hs m2 hg) (by omega)
    refine ⟨r.1, ?_⟩
    rw [he]
    omega

/-- What a station puts: if nothing named was heard, it is Bidding or Sending. -/
theorem put_cases {c : Cfg} {now i : Nat} {s : Stn} {p : Put} {h : Ans} (hs : StOk c now i s p) (hp : (one c (now + 1) i s h).2.1 ≠ .nil) :
    (kindOf h ≠ 0 ∧ (kindOf h = 9 → s.mode = 2)) ∨ ((one c (now + 1) i s h).2.1 = .short 3 ∧ s.mode ≠ 3) ∨ s.mode = 2 := by
  unfold one named at hp ⊢
  by_cases h1 : s.mode = 1
  · rw [if_pos h1] at hp ⊢
    unfold bidding at hp ⊢
    by_cases k7 : kindOf h = 7
    · left; exact ⟨by omega, by omega⟩
    · rw [if_neg k7] at hp ⊢
      by_cases k9 : kindOf h = 9
      · exfalso
        rw [if_pos k9] at hp
        simp only [later] at hp
        split at hp
        · simp [ends, h1] at hp
        · simp at hp
      · rw [if_neg k9] at hp ⊢
        by_cases k3 : kindOf h = 3 ∧ i = 1
        · left; exact ⟨by omega, by omega⟩
        · rw [if_neg k3] at hp ⊢
          simp only at hp ⊢
          by_cases hx : s.mode ≠ 0 ∧ now + 1 = s.due
          · rw [if_pos hx] at hp ⊢
            simp only [over] at hp ⊢
            rw [if_neg (by omega)] at hp ⊢
            split at hp
            · simp [ends, h1] at hp
            · rename_i hy
              rw [if_neg hy]
              right; left
              exact ⟨by simp [h1], by omega⟩
          · rw [if_neg hx, if_neg (by omega)] at hp
            simp at hp
  · rw [if_neg h1] at hp ⊢
    by_cases h2 : s.mode = 2
    · exact Or.inr (Or.inr h2)
    · rw [if_neg h2] at hp ⊢
      by_cases h3 : s.mode = 3
      · left
        rw [if_pos h3] at hp
        unfold receiving at hp
        cases h with
        | data a b d e => exact ⟨by simp [kindOf], by simp [kindOf]⟩
        | none n =>
          simp only at hp
          by_cases n1 : n = 1
          · exact ⟨by simp [kindOf, n1], by simp [kindOf, n1]⟩
          · rw [if_neg n1] at hp
            by_cases n4 : n = 4
            · exact ⟨by simp [kindOf, n4], by simp [kindOf, n4]⟩
            · rw [if_neg n4] at hp
              by_cases n3 : n = 3
              · exact ⟨by simp [kindOf, n3], by simp [kindOf, n3]⟩
              · rw [if_neg n3] at hp
                by_cases n5 : n = 5
                · exact ⟨by simp [kindOf, n5], by simp [kindOf, n5]⟩
                · exfalso
                  rw [if_neg n5] at hp
                  simp only at hp
                  split at hp
                  · simp [over, h3] at hp
                  · rw [if_neg (by omega)] at hp
                    simp at hp
      · rw [if_neg h3] at hp ⊢
        have h0 : s.mode = 0 := by have := hs.mode; omega
        unfold idle at hp ⊢
        by_cases k3 : kindOf h = 3
        · left; exact ⟨by omega, by omega⟩
        · rw [if_neg k3] at hp ⊢
          simp only at hp ⊢
          rw [if_neg (by omega)] at hp ⊢
          split at hp
          · rename_i hx
            rw [if_pos hx]
            right; left
            exact ⟨rfl, h3⟩
          · simp at hp

/-- One speaks. -/
structure Tok (c : Cfg) (now : Nat) (s0 s1 : Stn) (p0 p1 : Put) : Prop where
  a : StOk c now 0 s0 p0
  b : StOk c now 1 s1 p1
  k0 : Kept c s0 s1
  k1 : Kept c s1 s0
  t : p0 ≠ .nil → p1 ≠ .nil → p0 = .short 3 ∧ p1 = .short 3

theorem both_bid {c : Cfg} {now i j : Nat} {s t : Stn} {p q : Put} {h g : Ans} (hc : c.Ok) (hs : StOk c now i s p) (ht : StOk c now j t q) (k1 : Kept c s t) (k2 : Kept c t s) (hh : Hears p q h) (hg : Hears q p g)
    (hp : (one c (now + 1) i s h).2.1 ≠ .nil) (hq : (one c (now + 1) j t g).2.1 ≠ .nil) : (one c (now + 1) i s h).2.1 = .short 3 := by
  -- a put in answer to what is heard: the other one is silent then
  have key : ∀ {i j : Nat} {s t : Stn} {p q : Put} {h g : Ans}, StOk c now i s p → StOk c now j t q → Kept c s t → Hears p q h → Hears q p g → (one c (now + 1) j t g).2.1 ≠ .nil → kindOf h ≠ 0 → kindOf h = 9 ∧ t.mode = 0 := by
    intro i j s t p q h g hs ht k1 hh hg hq hk
    obtain ⟨hpn, hqn⟩ := heard_some hh hk
    have g0 := own_silence hg hqn
    subst g0
    rcases quiet_next hc ht hqn with e | ⟨e1, e2, _⟩
    · rw [e] at hq; exact absurd rfl hq
    · refine ⟨?_, e2⟩
      subst e1
      rcases hh with ⟨hn, _⟩ | ⟨_, hm⟩
      · exact absurd hpn hn
      · rcases hm with rfl | rfl
        · rfl
        · exact absurd rfl hk
  rcases put_cases hs hp with ⟨hk, h9⟩ | ⟨e, _⟩ | m2
  · obtain ⟨k9, t0⟩ := key hs ht k1 hh hg hq hk
    have := (k1 (h9 k9)).1
    omega
  · exact e
  · have t3 := (k1 m2).1
    rcases put_cases ht hq with ⟨hk, h9⟩ | ⟨_, n3⟩ | m2'
    · obtain ⟨k9, s0⟩ := key ht hs k2 hg hh hp hk
      omega
    · exact absurd t3 n3
    · omega

theorem tok_step {c : Cfg} {now : Nat} {s0 s1 : Stn} {p0 p1 : Put} {h0 h1 : Ans} (hc : c.Ok) (h : Tok c now s0 s1 p0 p1) (a0 : Hears p0 p1 h0) (a1 : Hears p1 p0 h1) :
    Tok c (now + 1) (one c (now + 1) 0 s0 h0).1 (one c (now + 1) 1 s1 h1).1 (one c (now + 1) 0 s0 h0).2.1 (one c (now + 1) 1 s1 h1).2.1 :=
  ⟨one_ok hc h.a, one_ok hc h.b, kept_step hc h.a h.b h.k0 a0 a1, kept_step hc h.b h.a h.k1 a1 a0, fun q0 q1 => ⟨both_bid hc h.a h.b h.k0 h.k1 a0 a1 q0 q1, both_bid hc h.b h.a h.k1 h.k0 a1 a0 q1 q0⟩⟩

theorem tok_new (c : Cfg) : Tok c 0 newS newS .nil .nil := by
  have ok : ∀ i, StOk c 0 i newS .nil := fun i => ⟨by simp [newS], by simp [newS], by simp [newS], by simp [newS], by simp [newS], Or.inl rfl⟩
  exact ⟨ok 0, ok 1, by simp [Kept, newS], by simp [Kept, newS], fun h => absurd rfl h⟩
end Go.Proofs.Ytlbpjcphhocdkaa.Mod
