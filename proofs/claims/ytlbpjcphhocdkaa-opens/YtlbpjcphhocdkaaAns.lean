/- Plain: what is heard of some bytes (P6), said by what it must be; it is one thing only. -/
import Derived.Test.YtlbpjcphhocdkaaPrs
namespace Go.Proofs.Ytlbpjcphhocdkaa

/-- Does it begin as a block? -/
def begins (r : List UInt8) : Bool := decide ((r.getD 0 0).toNat = 1 ∨ (r.getD 0 0).toNat = 2 ∨ ((r.getD 0 0).toNat = 16 ∧ (r.getD 1 0).toNat = 2))

/-- The body of P4 for a kind; empty where there is none. -/
def sbody (k : Int) : List UInt8 :=
  if k = 3 then [4, 5] else if k = 4 then [5] else if k = 5 then [4] else if k = 6 then [21]
  else if k = 7 then [16, 48] else if k = 8 then [16, 49] else if k = 9 then [16, 59] else []

/-- Which kind the bytes are, of those that carry no block. -/
def SKind (r : List UInt8) (n : Nat) : Prop := (3 ≤ n ∧ n ≤ 9 ∧ r = sbody n ++ [255]) ∨ (n = 0 ∧ ∀ k : Nat, 3 ≤ k → k ≤ 9 → r ≠ sbody k ++ [255])

theorem sbody_inj : ∀ m n : Nat, 3 ≤ m → m ≤ 9 → 3 ≤ n → n ≤ 9 → sbody m ++ [255] = sbody n ++ [255] → m = n := by
  have key : ∀ m n : Fin 10, 3 ≤ m.val → 3 ≤ n.val → sbody m.val ++ [255] = sbody n.val ++ [255] → m.val = n.val := by decide
  intro m n h1 h2 h3 h4 h
  exact key ⟨m, by omega⟩ ⟨n, by omega⟩ h1 h3 h
theorem SKind.one {r : List UInt8} {m n : Nat} (h : SKind r m) (k : SKind r n) : m = n := by
  rcases h with ⟨a1, a2, a3⟩ | ⟨a1, a2⟩ <;> rcases k with ⟨b1, b2, b3⟩ | ⟨b1, b2⟩
  · exact sbody_inj m n a1 a2 b1 b2 (a3.symm.trans b3)
  · exact absurd a3 (b2 m a1 a2)
  · exact absurd b3 (a2 n b1 b2)
  · omega

inductive Ans where
  | data (h : List UInt8) (ps : List (List UInt8)) (c t : Bool)
  | none (n : Nat)

def ReadsAs (kk : Int) (l : List UInt8) : Ans → Prop
  | .data h ps c t => begins (Prs.restL l) = true ∧ Prs.Good kk (Prs.restL l) h ps c t [255]
  | .none n => (begins (Prs.restL l) = true ∧ n = 1 ∧ ∀ h0 ps0 c0 t0, ¬ Prs.Good kk (Prs.restL l) h0 ps0 c0 t0 [255]) ∨ (begins (Prs.restL l) = false ∧ SKind (Prs.restL l) n)

theorem ReadsAs.one {kk : Int} {l : List UInt8} {A B : Ans} (h : ReadsAs kk l A) (k : ReadsAs kk l B) : A = B := by
  cases A with
  | data h1 ps1 c1 t1 =>
    cases B with
    | data h2 ps2 c2 t2 =>
      obtain ⟨a1, a2⟩ := h
      obtain ⟨b1, b2⟩ := k
      obtain ⟨rfl, rfl, rfl, rfl, _⟩ := a2.one b2
      rfl
    | none n =>
      obtain ⟨a1, a2⟩ := h
      rcases k with ⟨_, _, k⟩ | ⟨k, _⟩
      · exact absurd a2 (k _ _ _ _)
      · rw [a1] at k; cases k
  | none m =>
    cases B with
    | data h2 ps2 c2 t2 =>
      obtain ⟨b1, b2⟩ := k
      rcases h with ⟨_, _, h⟩ | ⟨h, _⟩
      · exact absurd b2 (h _ _ _ _)
      · rw [b1] at h; cases h
    | none n =>
      rcases h with ⟨a0, rfl, _⟩ | ⟨a0, a1⟩ <;> rcases k with ⟨b0, rfl, _⟩ | ⟨b0, b1⟩
      · rfl
      · rw [a0] at b0; cases b0
      · rw [a0] at b0; cases b0
      · rw [a1.one b1]
end Go.Proofs.Ytlbpjcphhocdkaa
