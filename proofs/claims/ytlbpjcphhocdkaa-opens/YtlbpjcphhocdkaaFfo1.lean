/- Plain: a message cut into blocks, and joined again. -/
import Derived.Test.YtlbpjcphhocdkaaTok3
namespace Go.Proofs.Ytlbpjcphhocdkaa.Mod

theorem chunk_flatten {α : Type} (n : Nat) : ∀ f (l : List α), (chunk n f l).flatten = l
  | 0, l => by simp [chunk]
  | f + 1, l => by
    unfold chunk
    split
    · simp
    · rw [List.flatten_cons, chunk_flatten n f, List.take_append_drop]
theorem chunk_ne {α : Type} (n : Nat) : ∀ f (l : List α), chunk n f l ≠ []
  | 0, l => by simp [chunk]
  | f + 1, l => by unfold chunk; split <;> simp
theorem chunk_le {α : Type} (n : Nat) (hn : 1 ≤ n) : ∀ f (l : List α), l.length ≤ f → ∀ x ∈ chunk n f l, x.length ≤ n
  | 0, l, h, x, hx => by
    simp [chunk] at hx
    subst hx
    omega
  | f + 1, l, h, x, hx => by
    unfold chunk at hx
    split at hx
    · simp at hx; subst hx; assumption
    · rcases List.mem_cons.1 hx with rfl | hx
      · simp; omega
      · exact chunk_le n hn f _ (by simp; omega) x hx
theorem chunk_some {α : Type} (n : Nat) (hn : 1 ≤ n) : ∀ f (l : List α), l.length ≤ f → l ≠ [] → ∀ x ∈ chunk n f l, x ≠ []
  | 0, l, h, h0, x, hx => by
    simp [chunk] at hx
    subst hx
    exact h0
  | f + 1, l, h, h0, x, hx => by
    unfold chunk at hx
    split at hx
    · simp at hx; subst hx; exact h0
    · rename_i hgt
      rcases List.mem_cons.1 hx with rfl | hx
      · intro he
        have := congrArg List.length he
        simp at this
        rcases this with h | h
        · omega
        · exact h0 h
      · refine chunk_some n hn f _ (by simp; omega) (fun he => ?_) x hx
        have := congrArg List.length he
        simp at this
        omega

theorem groups_flatten (c : Cfg) (m : Msg) : (groups c m).flatten.flatten = m.text := by
  unfold groups pieces
  rw [chunk_flatten, chunk_flatten]
theorem nblk_pos (c : Cfg) (m : Msg) : 1 ≤ nblk c m := by
  unfold nblk groups
  have := chunk_ne c.parts (pieces c m).length (pieces c m)
  cases h : chunk c.parts (pieces c m).length (pieces c m) with
  | nil => exact absurd h this
  | cons a l => simp

/-- The first k blocks of a message. -/
def firsts (c : Cfg) (m : Msg) (k : Nat) : List Bk := (List.range k).map (blkAt c m)
theorem firsts_succ (c : Cfg) (m : Msg) (k : Nat) : firsts c m (k + 1) = firsts c m k ++ [blkAt c m k] := by
  simp [firsts, List.range_succ]
theorem firsts_text (c : Cfg) (m : Msg) (k : Nat) (hk : k ≤ nblk c m) : ((firsts c m k).map (·.parts.flatten)).flatten = ((groups c m).take k).flatten.flatten := by
  induction k with
  | zero => simp [firsts]
  | succ k ih =>
    have hlt : k < (groups c m).length := hk
    rw [firsts_succ, List.take_succ_eq_append_getElem hlt]
    simp only [List.map_append, List.map_cons, List.map_nil, List.flatten_append, List.flatten_cons, List.flatten_nil, List.append_nil]
    rw [ih (by omega)]
    congr 1
    simp [blkAt, List.getD, List.getElem?_eq_getElem hlt]
theorem firsts_head (c : Cfg) (m : Msg) (k : Nat) : ((firsts c m (k + 1)).map (·.head)).flatten = m.head := by
  induction k with
  | zero => simp [firsts, blkAt, List.range_succ]
  | succ k ih =>
    rw [firsts_succ, List.map_append, List.flatten_append, ih]
    simp [blkAt]
theorem firsts_clear (c : Cfg) (m : Msg) (k : Nat) : ((firsts c m (k + 1)).getLast?.map (·.clear)).getD false = m.clear := by
  rw [firsts_succ]
  simp [blkAt]
theorem joined_text_le (c : Cfg) (m : Msg) (k : Nat) (hk : k ≤ nblk c m) : (joinedM (firsts c m k)).text.length ≤ m.text.length := by
  show ((firsts c m k).map (·.parts.flatten)).flatten.length ≤ _
  rw [firsts_text c m k hk]
  have h := groups_flatten c m
  rw [← List.take_append_drop k (groups c m), List.flatten_append, List.flatten_append] at h
  have := congrArg List.length h
  simp only [List.length_append] at this
  omega
theorem joined_head (c : Cfg) (m : Msg) (k : Nat) : (joinedM (firsts c m (k + 1))).head = m.head := firsts_head c m k
theorem joined_all (c : Cfg) (m : Msg) (k : Nat) (hk : k + 1 = nblk c m) : joinedM (firsts c m (k + 1)) = m := by
  have h1 := firsts_head c m k
  have h2 := firsts_text c m (k + 1) (by omega)
  have h3 := firsts_clear c m k
  rw [List.take_of_length_le (show (groups c m).length ≤ k + 1 by unfold nblk at hk; omega), groups_flatten] at h2
  unfold joinedM
  rw [h1, h2, h3]

/-- A message that may join a queue. -/
def MsgOk (m : Msg) : Prop := m.head.length ≤ 8 ∧ m.text.length ≤ 200

theorem takes_good {c : Cfg} {now i k : Nat} {t : Stn} {m : Msg} (hm : MsgOk m) (hg : t.got = firsts c m k) (hk : k < nblk c m) :
    takes c now i t (blkAt c m k) = (if k + 1 = nblk c m then ({ t with due := now + c.lost, count := t.count + 1, got := [] }, tells { t with count := t.count + 1 }, some ⟨1, i, 0, m⟩) else ({ t with due := now + c.lost, count := t.count + 1, got := firsts c m (k + 1) }, tells { t with count := t.count + 1 }, none)) := by
  have e : t.got ++ [blkAt c m k] = firsts c m (k + 1) := by rw [hg, firsts_succ]
  have h1 := joined_head c m k
  have h2 := joined_text_le c m (k + 1) (by omega)
  unfold takes
  rw [e, if_neg (by rw [h1]; have := hm.1; have := hm.2; omega)]
  have hl : (blkAt c m k).last = decide (k + 1 = nblk c m) := rfl
  by_cases hk2 : k + 1 = nblk c m
  · rw [if_pos (by rw [hl]; simp [hk2]), if_pos hk2, joined_all c m k hk2]
  · rw [if_neg (by rw [hl]; simp [hk2]), if_neg hk2]
end Go.Proofs.Ytlbpjcphhocdkaa.Mod
