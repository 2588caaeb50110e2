/- The law Cuts, walked: a transmission that is cut short is nothing; a block with something behind it is Torn; a short one is read as its kind. -/
import Derived.Test.YtcoahckffcjpaaaBackW
namespace Go.Proofs.Ytcoahckffcjpaaa
open Go.RowKit

theorem sbody_facts : ∀ K : Nat, 3 ≤ K → K ≤ 9 → begins (sbody K ++ [255]) = false ∧ ¬ ((sbody K ++ [255]).getD 0 0).toNat = 22 ∧ 1 ≤ (sbody K).length ∧ (sbody K).length ≤ 2 := by
  have key : ∀ K : Fin 10, 3 ≤ K.val → begins (sbody K.val ++ [255]) = false ∧ ¬ ((sbody K.val ++ [255]).getD 0 0).toNat = 22 ∧ 1 ≤ (sbody K.val).length ∧ (sbody K.val).length ≤ 2 := by decide
  intro K h1 h2
  exact key ⟨K, by omega⟩ h1
theorem short_reads {k : Int} {K : Nat} {l : List UInt8} {A : Ans} (h1 : 3 ≤ K) (h2 : K ≤ 9) (hl : l = [22, 22] ++ sbody K ++ [255]) (hr : ReadsAs k l A) : A = .none K := by
  have f := sbody_facts K h1 h2
  have e : Prs.restL l = sbody K ++ [255] := by
    rw [hl, show [22, 22] ++ sbody K ++ [255] = List.replicate 0 22 ++ (22 :: 22 :: (sbody K ++ [255])) by simp]
    exact restL_syns 0 _ f.2.1
  refine hr.one (B := .none K) (Or.inr ⟨by rw [e]; exact f.1, ?_⟩)
  rw [e]
  exact Or.inl ⟨h1, h2, rfl⟩

theorem short_cut {k : Int} {K j : Nat} {l : List UInt8} {A : Ans} (h1 : 3 ≤ K) (h2 : K ≤ 9) (hl : l = ([22, 22] ++ sbody K ++ [255]).take j) (hj : j < (sbody K).length + 3) (hr : ReadsAs k l A) : A = .none 0 := by
  have key : ∀ K : Fin 10, ∀ j : Fin 5, 3 ≤ K.val → j.val < (sbody K.val).length + 3 → begins (Prs.restL (([22, 22] ++ sbody K.val ++ [255]).take j.val)) = false ∧ ∀ m : Fin 10, 3 ≤ m.val → Prs.restL (([22, 22] ++ sbody K.val ++ [255]).take j.val) ≠ sbody m.val ++ [255] := by decide
  have hz := (sbody_facts K h1 h2).2.2.2
  have f := key ⟨K, by omega⟩ ⟨j, by omega⟩ h1 hj
  subst hl
  exact hr.one (B := .none 0) (Or.inr ⟨f.1, Or.inr ⟨rfl, fun m a b => f.2 ⟨m, by omega⟩ a⟩⟩)

theorem begins_take {r : List UInt8} {m : Nat} (h : begins r = true) (hm : 2 ≤ m) : begins (r.take m) = true := by
  have e0 : (r.take m).getD 0 0 = r.getD 0 0 := by simp [List.getD, show 0 < m by omega]
  have e1 : (r.take m).getD 1 0 = r.getD 1 0 := by simp [List.getD, show 1 < m by omega]
  unfold begins at *
  rw [e0, e1]
  exact h

theorem block_cut {k : Int} {h : List UInt8} {ps : List (List UInt8)} {c t : Bool} {j : Nat} {l : List UInt8} {A : Ans} (hE : Blk.encE h ps c k = 0) (hl : l = ([22, 22] ++ Blk.body h ps c t k ++ [255]).take j) (hj : j < (Blk.body h ps c t k).length + 3) (hr : ReadsAs k l A) :
    ∃ n, A = .none n ∧ (n = 0 ∨ n = 1) := by
  have g := encE_good t [255] hE
  have gb := good_begins g
  generalize hB : Blk.body h ps c t k ++ [255] = B at *
  have hBl : B.length = (Blk.body h ps c t k).length + 1 := by rw [← hB]; simp
  have e : [22, 22] ++ Blk.body h ps c t k ++ [255] = 22 :: 22 :: B := by rw [← hB]; simp
  rw [e] at hl
  by_cases hj2 : j ≤ 2
  · have hz : Prs.restL l = [] := by
      rw [hl]
      match j, hj2 with
      | 0, _ => rfl
      | 1, _ => rfl
      | 2, _ => rfl
    refine ⟨0, ?_, Or.inl rfl⟩
    refine hr.one (B := .none 0) (Or.inr ⟨by rw [hz]; rfl, Or.inr ⟨rfl, fun m _ _ => ?_⟩⟩)
    rw [hz]
    intro h
    have := congrArg List.length h
    simp at this
  · obtain ⟨i, rfl⟩ : ∃ i, j = i + 2 := ⟨j - 2, by omega⟩
    have hi : 1 ≤ i := by omega
    have hrest : Prs.restL l = B.take i := by
      rw [hl]
      show Prs.restL (22 :: 22 :: B.take i) = _
      refine restL_syns 0 _ ?_
      have e0 : (B.take i).getD 0 0 = B.getD 0 0 := by simp [List.getD, show 0 < i by omega]
      rw [e0]
      exact gb.2
    cases A with
    | none n =>
      refine ⟨n, rfl, ?_⟩
      rcases hr with ⟨_, rfl, _⟩ | ⟨hb, hs⟩
      · exact Or.inr rfl
      · rcases hs with ⟨h1, h2, h3⟩ | ⟨h1, _⟩
        · exfalso
          rw [hrest] at h3 hb
          have q := congrArg List.length h3
          have f := sbody_facts n h1 h2
          simp only [List.length_append, List.length_take, List.length_cons, List.length_nil] at q
          have hi2 : 2 ≤ i := by omega
          rw [begins_take gb.1 hi2] at hb
          cases hb
        · exact Or.inl h1
    | data h' ps' c' t' =>
      exfalso
      obtain ⟨_, g'⟩ := hr
      rw [hrest] at g'
      have g2 : Prs.Good k B h' ps' c' t' ([255] ++ B.drop i) := ⟨g'.ok, g'.kc, by
        have := List.take_append_drop i B
        rw [g'.eq, List.append_assoc] at this
        exact this.symm⟩
      have hx := (g.one g2).2.2.2.2
      have := congrArg List.length hx
      simp only [List.length_append, List.length_cons, List.length_nil, List.length_drop] at this
      omega

theorem block_tail {k : Int} {h : List UInt8} {ps : List (List UInt8)} {c t : Bool} {tl l : List UInt8} {A : Ans} (hE : Blk.encE h ps c k = 0) (hl : l = [22, 22] ++ Blk.body h ps c t k ++ [255] ++ tl) (ht : ¬ tl = []) (hr : ReadsAs k l A) : A = .none 1 := by
  have g := encE_good t ([255] ++ tl) hE
  have gb := good_begins g
  have hrest : Prs.restL l = Blk.body h ps c t k ++ ([255] ++ tl) := by
    rw [hl, show [22, 22] ++ Blk.body h ps c t k ++ [255] ++ tl = List.replicate 0 22 ++ (22 :: 22 :: (Blk.body h ps c t k ++ ([255] ++ tl))) by simp]
    exact restL_syns 0 _ gb.2
  refine hr.one (B := .none 1) (Or.inl ⟨by rw [hrest]; exact gb.1, rfl, fun h0 ps0 c0 t0 g' => ?_⟩)
  rw [hrest] at g'
  have hx := (g.one g').2.2.2.2
  have := congrArg List.length hx
  simp only [List.length_append, List.length_cons, List.length_nil] at this
  exact ht (List.eq_nil_of_length_eq_zero (by omega))

theorem short_is (K : Nat) (w : World) (h1 : 3 ≤ K) (h2 : K ≤ 9) :
    Calls Try.prog 13 #[.int .i64 K] w fun e w' => ∃ x, e = .returned (.tuple #[.string x, .int .i64 0]) ∧ Hid (Is x ([22, 22] ++ sbody K ++ [255])) ∧ x.size = (sbody K).length + 3 ∧ Below w.heap.size w w' := by
  have f := sbody_facts K h1 h2
  have hne : ¬ sbody K = [] := by intro h; rw [h] at f; simp at f
  have eE : shortE K = 0 := by simp [shortE, hne]
  have eS : shortS K = [22, 22] ++ sbody K ++ [255] := by simp [shortS, hne]
  have h := short_any K w
  rw [eE, eS] at h
  refine h.mono ?_
  rintro e w' ⟨he, hb⟩
  refine ⟨_, he, Is.mk _, ?_, hb⟩
  rw [(Is.mk _).size]
  simp only [List.length_append, List.length_cons, List.length_nil]
  omega
theorem is_take {x : ByteArray} {l : List UInt8} (h : Is x l) (m : Nat) : Is (x.extract 0 m) (l.take m) := by
  have := is_cut x 0 m
  rw [h.data] at this
  simpa using this
end Go.Proofs.Ytcoahckffcjpaaa
