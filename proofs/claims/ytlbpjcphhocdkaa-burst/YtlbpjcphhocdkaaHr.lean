/- Plain: what is heard of what was made: a block, a short transmission; cut short; with something behind it. -/
import Derived.Test.YtlbpjcphhocdkaaAns
namespace Go.Proofs.Ytlbpjcphhocdkaa

theorem restL_skip (p r : List UInt8) (hp : ∀ u ∈ p, ¬ u.toNat = 22) : Prs.restL (p ++ r) = Prs.restL r := by
  induction p with
  | nil => rfl
  | cons a p ih =>
    have ha : Prs.syn a = false := by simp [Prs.syn, hp a (by simp)]
    rw [← ih (fun u hu => hp u (by simp [hu])), List.cons_append]
    cases hl : p ++ r with
    | nil => rfl
    | cons b t => simp [Prs.restL, ha]
theorem dropWhile_syn (b : List UInt8) (hb : ¬ (b.getD 0 0).toNat = 22) : b.dropWhile Prs.syn = b := by
  cases b with
  | nil => rfl
  | cons x t => exact List.dropWhile_cons_of_neg (by simpa [Prs.syn] using hb)
theorem restL_syns (m : Nat) (b : List UInt8) (hb : ¬ (b.getD 0 0).toNat = 22) : Prs.restL (List.replicate m 22 ++ (22 :: 22 :: b)) = b := by
  have e : List.replicate m (22 : UInt8) ++ (22 :: 22 :: b) = 22 :: 22 :: (List.replicate m 22 ++ b) := by
    have h1 : (22 :: 22 :: b : List UInt8) = List.replicate 2 22 ++ b := rfl
    rw [h1, ← List.append_assoc, List.replicate_append_replicate, Nat.add_comm, ← List.replicate_append_replicate, List.append_assoc]
    rfl
  rw [e]
  have h22 : Prs.syn 22 = true := rfl
  simp only [Prs.restL, h22, and_self, if_true]
  induction m with
  | zero => exact dropWhile_syn b hb
  | succ m ih =>
    rw [List.replicate_succ, List.cons_append, List.dropWhile_cons_of_pos h22]
    refine ih ?_
    rw [show List.replicate m (22 : UInt8) ++ (22 :: 22 :: b) = List.replicate m 22 ++ (List.replicate 2 22 ++ b) from rfl, ← List.append_assoc, List.replicate_append_replicate, Nat.add_comm, ← List.replicate_append_replicate, List.append_assoc]
    rfl

theorem body_head {h : List UInt8} {ps : List (List UInt8)} {c t : Bool} {k : Int} (x : List UInt8) (e : Blk.encE h ps c k = 0) :
    ∃ y, Blk.body h ps c t k ++ x = Blk.openL h c ++ y := by
  have hk : k = 0 ∨ k = 1 := by
    unfold Blk.encE at e
    split at e
    · assumption
    · omega
  have hz : Blk.berr h ps c = 0 := by unfold Blk.encE at e; rw [if_pos hk] at e; exact e
  exact Prs.Good.openR (k := k) (r := Blk.body h ps c t k ++ x) (t := t) ⟨hz, hk, rfl⟩
theorem encE_good {h : List UInt8} {ps : List (List UInt8)} {c : Bool} {k : Int} (t : Bool) (x : List UInt8) (e : Blk.encE h ps c k = 0) : Prs.Good k (Blk.body h ps c t k ++ x) h ps c t x := by
  have hk : k = 0 ∨ k = 1 := by
    unfold Blk.encE at e
    split at e
    · assumption
    · omega
  have hz : Blk.berr h ps c = 0 := by unfold Blk.encE at e; rw [if_pos hk] at e; exact e
  exact ⟨hz, hk, rfl⟩
theorem openL_first (h : List UInt8) (c : Bool) (y : List UInt8) : begins (Blk.openL h c ++ y) = true ∧ ¬ ((Blk.openL h c ++ y).getD 0 0).toNat = 22 := by
  unfold Blk.openL begins
  by_cases hn : h = []
  · subst hn; cases c <;> simp
  · cases c <;> simp [hn]
theorem good_begins {k : Int} {r h : List UInt8} {ps : List (List UInt8)} {c t : Bool} {x : List UInt8} (g : Prs.Good k r h ps c t x) : begins r = true ∧ ¬ (r.getD 0 0).toNat = 22 := by
  obtain ⟨y, rfl⟩ := g.openR
  exact openL_first h c y

/-- What is read where the rest is a block's body and PAD. -/
theorem reads_data {k : Int} {l h : List UInt8} {ps : List (List UInt8)} {c t : Bool} {A : Ans} (hr : ReadsAs k l A) (g : Prs.Good k (Prs.restL l) h ps c t [255]) : A = .data h ps c t :=
  hr.one (B := .data h ps c t) ⟨(good_begins g).1, g⟩

theorem body_len {h : List UInt8} {ps : List (List UInt8)} {c : Bool} (t : Bool) {k : Int} (e : Blk.encE h ps c k = 0) : 3 ≤ (Blk.body h ps c t k).length := by
  have hk : k = 0 ∨ k = 1 := by
    unfold Blk.encE at e
    split at e
    · assumption
    · omega
  have hz : Blk.berr h ps c = 0 := by unfold Blk.encE at e; rw [if_pos hk] at e; exact e
  obtain ⟨_, n1, _, _⟩ := Blk.berr_ok hz
  obtain ⟨y, hy⟩ := Prs.bodyTo_more h ps c t k 1 (ps.length - 1)
  rw [show 1 + (ps.length - 1) = ps.length by omega, show (1 : Nat) = 0 + 1 from rfl, Prs.bodyTo_pre] at hy
  unfold Blk.body
  rw [hy]
  simp only [List.length_append, Prs.pre, if_true, Prs.sum_len hk, Prs.esc_len]
  have : 1 ≤ (Blk.openL h c).length := by unfold Blk.openL; simp only [List.length_append, List.length_cons, List.length_nil]; omega
  have : 1 ≤ (if c then 2 else 1 : Nat) := by split <;> omega
  omega
theorem body_le {h : List UInt8} {ps : List (List UInt8)} {c : Bool} (t : Bool) {k : Int} (e : Blk.encE h ps c k = 0) : (Blk.body h ps c t k).length ≤ 316 := by
  have hk : k = 0 ∨ k = 1 := by
    unfold Blk.encE at e
    split at e
    · assumption
    · omega
  have hz : Blk.berr h ps c = 0 := by unfold Blk.encE at e; rw [if_pos hk] at e; exact e
  obtain ⟨g1, g2, g3, g4⟩ := Blk.berr_ok hz
  have h1 := Blk.bodyTo_length h ps c t k 32 (Blk.parts_le g4) ps.length
  have h2 : ps.length * (h.length + 2 * 32 + 7) ≤ 4 * (8 + 2 * 32 + 7) := Nat.mul_le_mul g3 (by have := Blk.headOk_le g1; omega)
  unfold Blk.body
  omega

theorem sbody_facts : ∀ K : Nat, 3 ≤ K → K ≤ 9 → begins (sbody K ++ [255]) = false ∧ ¬ ((sbody K ++ [255]).getD 0 0).toNat = 22 ∧ 1 ≤ (sbody K).length ∧ (sbody K).length ≤ 2 := by
  have key : ∀ K : Fin 10, 3 ≤ K.val → begins (sbody K.val ++ [255]) = false ∧ ¬ ((sbody K.val ++ [255]).getD 0 0).toNat = 22 ∧ 1 ≤ (sbody K.val).length ∧ (sbody K.val).length ≤ 2 := by decide
  intro K h1 h2
  exact key ⟨K, by omega⟩ h1
theorem short_reads {k : Int} {K : Nat} {l : List UInt8} {A : Ans} (h1 : 3 ≤ K) (h2 : K ≤ 9) (hl : l = [22, 22] ++ sbody K ++ [255]) (hr : ReadsAs k l A) : A = .none K := by
  have f := sbody_facts K h1 h2
  have e : Prs.restL l = sbody K ++ [255] := by
    rw [hl, show [22, 22] ++ sbody K ++ [255] = List.replicate 0 22 ++ (22 :: 22 :: (sbody K ++ [255])) by simp]
    exact restL_syns 0 _ f.2.1
  refine hr.one (B := .none K) (Or.inr ⟨by rw [e]; exact f.1, ?_⟩)
  rw [e]
  exact Or.inl ⟨h1, h2, rfl⟩

theorem short_cut {k : Int} {K j : Nat} {l : List UInt8} {A : Ans} (h1 : 3 ≤ K) (h2 : K ≤ 9) (hl : l = ([22, 22] ++ sbody K ++ [255]).take j) (hj : j < (sbody K).length + 3) (hr : ReadsAs k l A) : A = .none 0 := by
  have key : ∀ K : Fin 10, ∀ j : Fin 5, 3 ≤ K.val → j.val < (sbody K.val).length + 3 → begins (Prs.restL (([22, 22] ++ sbody K.val ++ [255]).take j.val)) = false ∧ ∀ m : Fin 10, 3 ≤ m.val → Prs.restL (([22, 22] ++ sbody K.val ++ [255]).take j.val) ≠ sbody m.val ++ [255] := by decide
  have hz := (sbody_facts K h1 h2).2.2.2
  have f := key ⟨K, by omega⟩ ⟨j, by omega⟩ h1 hj
  subst hl
  exact hr.one (B := .none 0) (Or.inr ⟨f.1, Or.inr ⟨rfl, fun m a b => f.2 ⟨m, by omega⟩ a⟩⟩)

theorem begins_take {r : List UInt8} {m : Nat} (h : begins r = true) (hm : 2 ≤ m) : begins (r.take m) = true := by
  have e0 : (r.take m).getD 0 0 = r.getD 0 0 := by simp [List.getD, show 0 < m by omega]
  have e1 : (r.take m).getD 1 0 = r.getD 1 0 := by simp [List.getD, show 1 < m by omega]
  unfold begins at *
  rw [e0, e1]
  exact h

theorem block_cut {k : Int} {h : List UInt8} {ps : List (List UInt8)} {c t : Bool} {j : Nat} {l : List UInt8} {A : Ans} (hE : Blk.encE h ps c k = 0) (hl : l = ([22, 22] ++ Blk.body h ps c t k ++ [255]).take j) (hj : j < (Blk.body h ps c t k).length + 3) (hr : ReadsAs k l A) :
    ∃ n, A = .none n ∧ (n = 0 ∨ n = 1) := by
  have g := encE_good t [255] hE
  have gb := good_begins g
  generalize hB : Blk.body h ps c t k ++ [255] = B at *
  have hBl : B.length = (Blk.body h ps c t k).length + 1 := by rw [← hB]; simp
  have e : [22, 22] ++ Blk.body h ps c t k ++ [255] = 22 :: 22 :: B := by rw [← hB]; simp
  rw [e] at hl
  by_cases hj2 : j ≤ 2
  · have hz : Prs.restL l = [] := by
      rw [hl]
      match j, hj2 with
      | 0, _ => rfl
      | 1, _ => rfl
      | 2, _ => rfl
    refine ⟨0, ?_, Or.inl rfl⟩
    refine hr.one (B := .none 0) (Or.inr ⟨by rw [hz]; rfl, Or.inr ⟨rfl, fun m _ _ => ?_⟩⟩)
    rw [hz]
    intro h
    have := congrArg List.length h
    simp at this
  · obtain ⟨i, rfl⟩ : ∃ i, j = i + 2 := ⟨j - 2, by omega⟩
    have hi : 1 ≤ i := by omega
    have hrest : Prs.restL l = B.take i := by
      rw [hl]
      show Prs.restL (22 :: 22 :: B.take i) = _
      refine restL_syns 0 _ ?_
      have e0 : (B.take i).getD 0 0 = B.getD 0 0 := by simp [List.getD, show 0 < i by omega]
      rw [e0]
      exact gb.2
    cases A with
    | none n =>
      refine ⟨n, rfl, ?_⟩
      rcases hr with ⟨_, rfl, _⟩ | ⟨hb, hs⟩
      · exact Or.inr rfl
      · rcases hs with ⟨h1, h2, h3⟩ | ⟨h1, _⟩
        · exfalso
          rw [hrest] at h3 hb
          have q := congrArg List.length h3
          have f := sbody_facts n h1 h2
          simp only [List.length_append, List.length_take, List.length_cons, List.length_nil] at q
          have hi2 : 2 ≤ i := by omega
          rw [begins_take gb.1 hi2] at hb
          cases hb
        · exact Or.inl h1
    | data h' ps' c' t' =>
      exfalso
      obtain ⟨_, g'⟩ := hr
      rw [hrest] at g'
      have g2 : Prs.Good k B h' ps' c' t' ([255] ++ B.drop i) := ⟨g'.ok, g'.kc, by
        have := List.take_append_drop i B
        rw [g'.eq, List.append_assoc] at this
        exact this.symm⟩
      have hx := (g.one g2).2.2.2.2
      have := congrArg List.length hx
      simp only [List.length_append, List.length_cons, List.length_nil, List.length_drop] at this
      omega

theorem block_tail {k : Int} {h : List UInt8} {ps : List (List UInt8)} {c t : Bool} {tl l : List UInt8} {A : Ans} (hE : Blk.encE h ps c k = 0) (hl : l = [22, 22] ++ Blk.body h ps c t k ++ [255] ++ tl) (ht : ¬ tl = []) (hr : ReadsAs k l A) : A = .none 1 := by
  have g := encE_good t ([255] ++ tl) hE
  have gb := good_begins g
  have hrest : Prs.restL l = Blk.body h ps c t k ++ ([255] ++ tl) := by
    rw [hl, show [22, 22] ++ Blk.body h ps c t k ++ [255] ++ tl = List.replicate 0 22 ++ (22 :: 22 :: (Blk.body h ps c t k ++ ([255] ++ tl))) by simp]
    exact restL_syns 0 _ gb.2
  refine hr.one (B := .none 1) (Or.inl ⟨by rw [hrest]; exact gb.1, rfl, fun h0 ps0 c0 t0 g' => ?_⟩)
  rw [hrest] at g'
  have hx := (g.one g').2.2.2.2
  have := congrArg List.length hx
  simp only [List.length_append, List.length_cons, List.length_nil] at this
  exact ht (List.eq_nil_of_length_eq_zero (by omega))
end Go.Proofs.Ytlbpjcphhocdkaa
