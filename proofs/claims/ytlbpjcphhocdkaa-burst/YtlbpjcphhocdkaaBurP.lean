/- Plain facts on turned bits, of no program: where a body is turned in a few bits in a row (with the check Xor: in one byte) it is no block's body. -/
import Derived.Test.YtlbpjcphhocdkaaAns
namespace Go.Proofs.Ytlbpjcphhocdkaa.Bur
open Crc Blk

/-- The register takes turned bits apart. -/
theorem regN_xor (B D : Nat → Bool) (n : Nat) : regN (fun j => B j ^^ D j) n = regN B n ^^^ regN D n := by
  induction n with
  | zero => simp [regN]
  | succ n ih =>
    simp only [regN, ih, xor_half, Nat.testBit_xor]
    generalize regN B n = X
    generalize regN D n = Y
    have t : (if (B n ^^ D n ^^ (X.testBit 0 ^^ Y.testBit 0)) then 40961 else 0) = (if (B n ^^ X.testBit 0) then 40961 else 0) ^^^ (if (D n ^^ Y.testBit 0) then 40961 else 0 : Nat) := by
      generalize B n = a; generalize D n = b; generalize X.testBit 0 = c; generalize Y.testBit 0 = d
      cases a <;> cases b <;> cases c <;> cases d <;> simp
    rw [t]
    generalize (if (B n ^^ X.testBit 0) then 40961 else 0 : Nat) = P
    generalize (if (D n ^^ Y.testBit 0) then 40961 else 0 : Nat) = Q
    rw [Nat.xor_assoc, Nat.xor_assoc, ← Nat.xor_assoc (Y / 2), Nat.xor_comm (Y / 2) P, Nat.xor_assoc]

theorem regN_zero (B : Nat → Bool) (n : Nat) (h : ∀ j, j < n → B j = false) : regN B n = 0 := by
  induction n with
  | zero => rfl
  | succ n ih => rw [regN, ih (fun j hj => h j (by omega)), h n (by omega)]; rfl

theorem sh_zero {r : Nat} (hr : r < 65536) (h : sh r = 0) : r = 0 := by
  unfold sh at h
  split at h
  · exfalso
    have h1 : r / 2 = 40961 := by
      have := congrArg (· ^^^ 40961) h
      simp only [Nat.xor_assoc, Nat.xor_self, Nat.xor_zero, Nat.zero_xor] at this
      exact this
    omega
  · rename_i hp
    omega
theorem shN_zero (n : Nat) {r : Nat} (hr : r < 65536) (h : shN n r = 0) : r = 0 := by
  induction n with
  | zero => exact h
  | succ n ih => exact ih (sh_zero (shN_lt n hr) h)
theorem shN_of_zero (n : Nat) : shN n 0 = 0 := by
  induction n with
  | zero => rfl
  | succ n ih => rw [shN, ih]; rfl

/-- Behind the bits no bit is set: the register is 0 just if it was. -/
theorem regN_tail (B : Nat → Bool) (m n : Nat) (h : ∀ j, m ≤ j → B j = false) : regN B (m + n) = shN n (regN B m) := by
  induction n with
  | zero => rfl
  | succ n ih =>
    rw [← Nat.add_assoc, regN, ih, h (m + n) (by omega), shN, sh_eq]
    simp

theorem regN_inK (B : Nat → Bool) (m r c K : Nat) (hr : regN B m = r) (hb : ∀ k, k < K → B (m + k) = c.testBit k) :
    ∀ k, k ≤ K → regN B (m + k) = shN k (r ^^^ c) ^^^ (c / 2 ^ k) := by
  intro k
  induction k with
  | zero => intro _; simp [shN, hr, xor_cancel]
  | succ k ih =>
    intro hk
    have h := ih (by omega)
    have e : m + (k + 1) = (m + k) + 1 := by omega
    rw [e, regN, h, hb k (by omega), shN, sh_eq]
    generalize shN k (r ^^^ c) = S
    have t : (c.testBit k ^^ (S ^^^ c / 2 ^ k).testBit 0) = S.testBit 0 := by
      rw [Nat.testBit_xor, Nat.testBit_div_two_pow, Nat.zero_add]
      generalize S.testBit 0 = x
      generalize c.testBit k = y
      cases x <;> cases y <;> rfl
    rw [t, xor_half, half_pow]
    rw [Nat.xor_assoc, Nat.xor_comm (c / 2 ^ (k + 1)), ← Nat.xor_assoc]

/-- The number of some bits. -/
def num (D : Nat → Bool) (m : Nat) : Nat → Nat
  | 0 => 0
  | n + 1 => num D m n ^^^ (if D (m + n) then 2 ^ n else 0)
theorem num_bit (D : Nat → Bool) (m n k : Nat) : (num D m n).testBit k = (decide (k < n) && D (m + k)) := by
  induction n with
  | zero => simp [num]
  | succ n ih =>
    rw [num, Nat.testBit_xor, ih]
    by_cases h : D (m + n) = true
    · rw [if_pos h, Nat.testBit_two_pow]
      by_cases hk : n = k
      · subst hk; simp [h]
      · have e1 : decide (k < n + 1) = decide (k < n) := by simp only [decide_eq_decide]; omega
        simp [hk, e1]
    · rw [if_neg h]
      by_cases hk : n = k
      · subst hk; simp [h]
      · have e1 : decide (k < n + 1) = decide (k < n) := by simp only [decide_eq_decide]; omega
        simp [e1]
theorem num_lt (D : Nat → Bool) (m : Nat) : num D m 16 < 65536 := by
  refine Nat.lt_pow_two_of_testBit (n := 16) _ fun i hi => ?_
  rw [num_bit]
  simp
  omega

/-- At most 16 bits in a row leave something. -/
theorem burst_reg (D : Nat → Bool) (m N : Nat) (h0 : ∀ j, D j = true → m ≤ j ∧ j < m + 16 ∧ j < N) (h1 : ∃ j, D j = true) : ¬ regN D N = 0 := by
  intro hz
  have f : ∀ j, ¬ (m ≤ j ∧ j < m + 16 ∧ j < N) → D j = false := by
    intro j hj
    cases hd : D j
    · rfl
    · exact absurd (h0 j hd) hj
  have hm : regN D m = 0 := regN_zero D m (fun j hj => f j (by omega))
  have hw := regN_inK D m 0 (num D m 16) 16 hm (fun k hk => by rw [num_bit]; simp [hk]) 16 (Nat.le_refl _)
  rw [Nat.zero_xor, Nat.div_eq_of_lt (num_lt D m), Nat.xor_zero] at hw
  have hc : regN D (m + 16) = 0 := by
    by_cases hN : N ≤ m + 16
    · have := regN_tail D N (m + 16 - N) (fun j hj => f j (by omega))
      rw [show N + (m + 16 - N) = m + 16 by omega, hz, shN_of_zero] at this
      exact this
    · have := regN_tail D (m + 16) (N - (m + 16)) (fun j hj => f j (by omega))
      rw [show m + 16 + (N - (m + 16)) = N by omega, hz] at this
      exact shN_zero _ (regN_lt D _) this.symm
  rw [hw] at hc
  have hn := shN_zero 16 (num_lt D m) hc
  obtain ⟨j, hj⟩ := h1
  have hb := h0 j hj
  have := num_bit D m 16 (j - m)
  rw [hn, show m + (j - m) = j by omega, hj] at this
  simp at this
  omega

/-- What a good body leaves. -/
theorem crc_append (a b : List UInt8) : crc (a ++ b) = b.foldl (fun r c => shN 8 (r ^^^ c.toNat)) (crc a) := by simp [crc, List.foldl_append]
theorem crc_app_zero (a b : List UInt8) (ha : crc a = 0) : crc (a ++ b) = crc b := by rw [crc_append, ha]; rfl

theorem shN_even (k x : Nat) : shN k (x * 2 ^ k) = x := by
  induction k generalizing x with
  | zero => simp [shN]
  | succ k ih =>
    have e : x * 2 ^ (k + 1) = (x * 2) * 2 ^ k := by rw [Nat.pow_succ, Nat.mul_assoc, Nat.mul_comm 2]
    rw [shN, e, ih (x * 2)]
    unfold sh
    rw [if_neg (by omega)]
    omega
theorem xor_low (r : Nat) : r ^^^ (r % 256) = (r / 256) * 2 ^ 8 := by
  apply Nat.eq_of_testBit_eq
  intro i
  rw [Nat.testBit_xor, show (256 : Nat) = 2 ^ 8 from rfl, Nat.testBit_mod_two_pow, Nat.testBit_mul_two_pow, Nat.testBit_div_two_pow]
  by_cases h : i < 8
  · simp [h]; omega
  · have : 8 ≤ i := by omega
    simp [h, this]
theorem crc_check (l : List UInt8) : crc (l ++ crcS l) = 0 := by
  have hr := crc_lt l
  unfold crcS
  rw [show l ++ [UInt8.ofNat (crc l % 256), UInt8.ofNat (crc l / 256)] = (l ++ [UInt8.ofNat (crc l % 256)]) ++ [UInt8.ofNat (crc l / 256)] by simp, crc_snoc, crc_snoc]
  have e1 : (UInt8.ofNat (crc l % 256)).toNat = crc l % 256 := by simp
  have e2 : (UInt8.ofNat (crc l / 256)).toNat = crc l / 256 := by rw [UInt8.toNat_ofNat']; exact Nat.mod_eq_of_lt (by omega)
  rw [e1, e2, xor_low, shN_even, Nat.xor_self, shN_of_zero]
theorem xorB_append (a b : List UInt8) (ha : xorB a = 0) : xorB (a ++ b) = xorB b := by
  unfold xorB at *
  rw [List.foldl_append, ha]
theorem xorB_check (l : List UInt8) : xorB (l ++ xorS l) = 0 := by
  unfold xorS
  rw [xorB_snoc]
  have e1 : (UInt8.ofNat (xorB l)).toNat = xorB l := by rw [UInt8.toNat_ofNat']; exact Nat.mod_eq_of_lt (xorB_lt l)
  rw [e1, Nat.xor_self]

theorem body_crc (h : List UInt8) (ps : List (List UInt8)) (c t : Bool) (n : Nat) : crc (bodyTo h ps c t 1 n) = 0 := by
  induction n with
  | zero => rfl
  | succ n ih => rw [bodyTo, crc_app_zero _ _ ih]; exact crc_check _
theorem body_xor (h : List UInt8) (ps : List (List UInt8)) (c t : Bool) (n : Nat) : xorB (bodyTo h ps c t 0 n) = 0 := by
  induction n with
  | zero => rfl
  | succ n ih => rw [bodyTo, xorB_append _ _ ih]; exact xorB_check _

/-- The bits in which two lists part. -/
def dif (a b : List UInt8) (j : Nat) : Bool := bitAt a j ^^ bitAt b j

theorem byte_ext (x y : UInt8) (h : ∀ k, k < 8 → x.toNat.testBit k = y.toNat.testBit k) : x = y := by
  apply UInt8.toNat_inj.1
  apply Nat.eq_of_testBit_eq
  intro i
  by_cases hi : i < 8
  · exact h i hi
  · have hx : x.toNat < 2 ^ i := Nat.lt_of_lt_of_le (byte_lt x) (Nat.pow_le_pow_right (n := 2) (by decide) (show 8 ≤ i by omega))
    have hy : y.toNat < 2 ^ i := Nat.lt_of_lt_of_le (byte_lt y) (Nat.pow_le_pow_right (n := 2) (by decide) (show 8 ≤ i by omega))
    rw [Nat.testBit_lt_two_pow hx, Nat.testBit_lt_two_pow hy]
theorem dif_byte (a b : List UInt8) (i : Nat) (h : ∀ j, 8 * i ≤ j → j < 8 * i + 8 → dif a b j = false) : a.getD i 0 = b.getD i 0 := by
  refine byte_ext _ _ fun k hk => ?_
  have := h (8 * i + k) (by omega) (by omega)
  unfold dif at this
  rw [bitAt_in _ _ _ hk, bitAt_in _ _ _ hk] at this
  simpa using this

theorem cyclic_no (a b : List UInt8) (hl : a.length = b.length) (ha : crc a = 0) (hb : crc b = 0) (m : Nat) (h0 : ∀ j, dif a b j = true → m ≤ j ∧ j < m + 16) (h1 : ∃ j, dif a b j = true) : False := by
  have h2 : ∀ j, dif a b j = true → j < 8 * a.length := by
    intro j hj
    rcases Nat.lt_or_ge j (8 * a.length) with h | h
    · exact h
    · exfalso
      unfold dif bitAt at hj
      have e1 : a.getD (j / 8) 0 = 0 := by simp [List.getD, List.getElem?_eq_none (show a.length ≤ j / 8 by omega)]
      have e2 : b.getD (j / 8) 0 = 0 := by simp [List.getD, List.getElem?_eq_none (show b.length ≤ j / 8 by omega)]
      rw [e1, e2] at hj
      simp at hj
  refine burst_reg (dif a b) m (8 * a.length) (fun j hj => ⟨(h0 j hj).1, (h0 j hj).2, h2 j hj⟩) h1 ?_
  have e := regN_xor (bitAt a) (bitAt b) (8 * a.length)
  rw [regN_all a, hl, regN_all b, ha, hb] at e
  rw [hl]
  exact e

theorem xorB_cons (x : UInt8) (l : List UInt8) : xorB (x :: l) = x.toNat ^^^ xorB l := by
  have key : ∀ (l : List UInt8) (r : Nat), l.foldl (fun r c => r ^^^ c.toNat) r = r ^^^ xorB l := by
    intro l
    induction l with
    | nil => intro r; simp [xorB]
    | cons y l ih =>
      intro r
      rw [List.foldl_cons, ih]
      have e : xorB (y :: l) = List.foldl (fun r c => r ^^^ c.toNat) (0 ^^^ y.toNat) l := rfl
      rw [e, ih, Nat.zero_xor, Nat.xor_assoc]
  have e : xorB (x :: l) = List.foldl (fun r c => r ^^^ c.toNat) (0 ^^^ x.toNat) l := rfl
  rw [e, key, Nat.zero_xor]
theorem xor_no : ∀ (a b : List UInt8) (i : Nat), a.length = b.length → xorB a = xorB b → (∀ k, k ≠ i → a.getD k 0 = b.getD k 0) → a = b
  | [], [], _, _, _, _ => rfl
  | [], _ :: _, _, h, _, _ => by simp at h
  | _ :: _, [], _, h, _, _ => by simp at h
  | x :: a, y :: b, i, hl, hx, hk => by
    rw [xorB_cons, xorB_cons] at hx
    have hl' : a.length = b.length := by simpa using hl
    cases i with
    | zero =>
      have hab : a = b := by
        apply List.ext_getElem hl'
        intro k h1 h2
        have := hk (k + 1) (by omega)
        simpa [List.getD, List.getElem?_eq_getElem h1, List.getElem?_eq_getElem h2] using this
      subst hab
      have hxy : x.toNat = y.toNat := by
        have := congrArg (· ^^^ xorB a) hx
        simpa [Nat.xor_assoc] using this
      rw [UInt8.toNat_inj.1 hxy]
    | succ i =>
      have hxy : x = y := by simpa using hk 0 (by omega)
      subst hxy
      have hab : xorB a = xorB b := by
        have := congrArg (x.toNat ^^^ ·) hx
        simpa [← Nat.xor_assoc] using this
      rw [xor_no a b i hl' hab (fun k hne => by simpa using hk (k + 1) (by omega))]

/-- With the check k: bodies that part only within 16 bits in a row (k = 0: within the byte at m) are one. -/
theorem no_other {k : Int} (hk : k = 0 ∨ k = 1) {h h' : List UInt8} {ps ps' : List (List UInt8)} {c c' t t' : Bool} (m : Nat)
    (hl : (body h ps c t k).length = (body h' ps' c' t' k).length)
    (h0 : ∀ j, dif (body h ps c t k) (body h' ps' c' t' k) j = true → m ≤ j ∧ j < m + 16) (h8 : k = 0 → m % 8 = 0 ∧ ∀ j, dif (body h ps c t k) (body h' ps' c' t' k) j = true → j < m + 8)
    (h1 : ∃ j, dif (body h ps c t k) (body h' ps' c' t' k) j = true) : False := by
  rcases hk with rfl | rfl
  · obtain ⟨hm, h8'⟩ := h8 rfl
    have e := xor_no (body h ps c t 0) (body h' ps' c' t' 0) (m / 8) hl (by unfold body; rw [body_xor, body_xor]) (fun i hi => dif_byte _ _ i (fun j a b => by
      cases hd : dif (body h ps c t 0) (body h' ps' c' t' 0) j
      · rfl
      · exfalso
        have q1 := (h0 j hd).1
        have q2 := h8' j hd
        omega))
    obtain ⟨j, hj⟩ := h1
    rw [e] at hj
    unfold dif at hj
    simp at hj
  · exact cyclic_no _ _ hl (by unfold body; exact body_crc _ _ _ _ _) (by unfold body; exact body_crc _ _ _ _ _) m h0 h1
end Go.Proofs.Ytlbpjcphhocdkaa.Bur
