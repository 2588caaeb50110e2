/- Plain facts on the two checks, of no program: the register that is shifted a byte at a time leaves what the long division of the bits leaves. -/
namespace Go.Proofs.Ytlbpjcphhocdkaa.Crc

def sh (r : Nat) : Nat := if r % 2 = 1 then (r / 2) ^^^ 40961 else r / 2
def shN : Nat → Nat → Nat
  | 0, r => r
  | n + 1, r => sh (shN n r)

theorem sh_lt {r : Nat} (h : r < 65536) : sh r < 65536 := by
  unfold sh
  split
  · exact Nat.xor_lt_two_pow (n := 16) (by omega) (by omega)
  · omega
theorem shN_lt (n : Nat) {r : Nat} (h : r < 65536) : shN n r < 65536 := by
  induction n with
  | zero => exact h
  | succ n ih => exact sh_lt ih

def crc (l : List UInt8) : Nat := l.foldl (fun r c => shN 8 (r ^^^ c.toNat)) 0
def xorB (l : List UInt8) : Nat := l.foldl (fun r c => r ^^^ c.toNat) 0

theorem byte_lt (c : UInt8) : c.toNat < 256 := c.toNat_lt

theorem crc_nil : crc [] = 0 := rfl
theorem xorB_nil : xorB [] = 0 := rfl
theorem crc_snoc (l : List UInt8) (c : UInt8) : crc (l ++ [c]) = shN 8 (crc l ^^^ c.toNat) := by simp [crc, List.foldl_append]
theorem xorB_snoc (l : List UInt8) (c : UInt8) : xorB (l ++ [c]) = xorB l ^^^ c.toNat := by simp [xorB, List.foldl_append]

theorem crc_step_lt {r c : Nat} (h : r < 65536) (hc : c < 256) : r ^^^ c < 65536 := Nat.xor_lt_two_pow (n := 16) (by omega) (by omega)
theorem foldl_crc_lt (l : List UInt8) : ∀ r, r < 65536 → l.foldl (fun r c => shN 8 (r ^^^ c.toNat)) r < 65536 := by
  induction l with
  | nil => intro r h; exact h
  | cons c l ih => intro r h; exact ih _ (shN_lt 8 (crc_step_lt h (byte_lt c)))
theorem crc_lt (l : List UInt8) : crc l < 65536 := foldl_crc_lt l 0 (by decide)
theorem foldl_xor_lt (l : List UInt8) : ∀ r, r < 256 → l.foldl (fun r c => r ^^^ c.toNat) r < 256 := by
  induction l with
  | nil => intro r h; exact h
  | cons c l ih => intro r h; exact ih _ (Nat.xor_lt_two_pow (n := 8) (by omega) (byte_lt c))
theorem xorB_lt (l : List UInt8) : xorB l < 256 := foldl_xor_lt l 0 (by decide)

/-- The bit at place j of the bytes l, lowest first; none behind the end. -/
def bitAt (l : List UInt8) (j : Nat) : Bool := (l.getD (j / 8) 0).toNat.testBit (j % 8)

/-- The register of the long division, bit by bit. -/
def regN (B : Nat → Bool) : Nat → Nat
  | 0 => 0
  | i + 1 => (regN B i / 2) ^^^ (if (B i ^^ (regN B i).testBit 0) then 40961 else 0)

theorem regN_lt (B : Nat → Bool) (i : Nat) : regN B i < 65536 := by
  induction i with
  | zero => show 0 < 65536; omega
  | succ i ih =>
    unfold regN
    split
    · exact Nat.xor_lt_two_pow (n := 16) (by omega) (by omega)
    · rw [Nat.xor_zero]; omega

theorem sh_eq (r : Nat) : sh r = (r / 2) ^^^ (if r.testBit 0 then 40961 else 0) := by
  unfold sh
  by_cases h : r % 2 = 1 <;> simp [Nat.testBit_zero, h]

theorem xor_half (a b : Nat) : (a ^^^ b) / 2 = (a / 2) ^^^ (b / 2) := by
  apply Nat.eq_of_testBit_eq
  intro i
  simp [← Nat.testBit_add_one, Nat.testBit_xor]

theorem half_pow (c k : Nat) : c / 2 ^ k / 2 = c / 2 ^ (k + 1) := by rw [Nat.div_div_eq_div_mul, Nat.pow_succ]

theorem xor_cancel (a b : Nat) : (a ^^^ b) ^^^ b = a := by rw [Nat.xor_assoc, Nat.xor_self, Nat.xor_zero]

/-- Inside a byte. -/
theorem regN_in (B : Nat → Bool) (m r c : Nat) (hr : regN B m = r) (hb : ∀ k, k < 8 → B (m + k) = c.testBit k) :
    ∀ k, k ≤ 8 → regN B (m + k) = shN k (r ^^^ c) ^^^ (c / 2 ^ k) := by
  intro k
  induction k with
  | zero => intro _; simp [shN, hr, xor_cancel]
  | succ k ih =>
    intro hk
    have h := ih (by omega)
    have e : m + (k + 1) = (m + k) + 1 := by omega
    rw [e, regN, h, hb k (by omega), shN, sh_eq]
    generalize shN k (r ^^^ c) = S
    have t : (c.testBit k ^^ (S ^^^ c / 2 ^ k).testBit 0) = S.testBit 0 := by
      rw [Nat.testBit_xor, Nat.testBit_div_two_pow, Nat.zero_add]
      generalize S.testBit 0 = x
      generalize c.testBit k = y
      cases x <;> cases y <;> rfl
    rw [t, xor_half, half_pow]
    rw [Nat.xor_assoc, Nat.xor_comm (c / 2 ^ (k + 1)), ← Nat.xor_assoc]

theorem bitAt_in (l : List UInt8) (m k : Nat) (hk : k < 8) : bitAt l (8 * m + k) = (l.getD m 0).toNat.testBit k := by
  unfold bitAt
  have e1 : (8 * m + k) / 8 = m := by omega
  have e2 : (8 * m + k) % 8 = k := by omega
  rw [e1, e2]

theorem regN_crc (l : List UInt8) : ∀ m, m ≤ l.length → regN (bitAt l) (8 * m) = crc (l.take m) := by
  intro m
  induction m with
  | zero => intro _; rfl
  | succ m ih =>
    intro hm
    have h := regN_in (bitAt l) (8 * m) _ (l.getD m 0).toNat (ih (by omega)) (fun k hk => bitAt_in l m k hk) 8 (by omega)
    have e : 8 * (m + 1) = 8 * m + 8 := by omega
    rw [e, h]
    have hz : (l.getD m 0).toNat / 2 ^ 8 = 0 := Nat.div_eq_of_lt (byte_lt _)
    rw [hz, Nat.xor_zero, List.take_succ_eq_append_getElem (by omega), crc_snoc]
    congr 3
    simp [List.getD, List.getElem?_eq_getElem (show m < l.length by omega)]

theorem regN_all (l : List UInt8) : regN (bitAt l) (8 * l.length) = crc l := by
  rw [regN_crc l l.length (Nat.le_refl _), List.take_length]

/-- Which places the divisor turns. -/
theorem poly_bit (j : Nat) : (40961 : Nat).testBit j = (decide (j = 0) || decide (j = 13) || decide (j = 15)) := by
  by_cases h : j < 16
  · have : ∀ j : Fin 16, (40961 : Nat).testBit j.val = (decide (j.val = 0) || decide (j.val = 13) || decide (j.val = 15)) := by decide
    exact this ⟨j, h⟩
  · have h16 : (40961 : Nat) < 2 ^ j := Nat.lt_of_lt_of_le (by decide : 40961 < 2 ^ 16) (Nat.pow_le_pow_right (by decide) (by omega))
    rw [Nat.testBit_lt_two_pow h16]
    simp
    omega

/-- What the array holds behind i steps, from place i on. -/
def left (B : Nat → Bool) (i j : Nat) : Bool := B j ^^ (regN B i).testBit (j - i)

theorem left_step (B : Nat → Bool) (i j : Nat) (h : i + 1 ≤ j) :
    left B (i + 1) j = (left B i j ^^ (left B i i && (decide (j = i + 1) || decide (j = i + 14) || decide (j = i + 16)))) := by
  unfold left
  rw [regN, Nat.testBit_xor]
  have e : j - i = (j - (i + 1)) + 1 := by omega
  have e2 : i - i = 0 := by omega
  rw [e, e2, Nat.testBit_add_one]
  have d : (decide (j = i + 1) || decide (j = i + 14) || decide (j = i + 16)) = (40961 : Nat).testBit (j - (i + 1)) := by
    rw [poly_bit]
    have a1 : (j = i + 1) ↔ (j - (i + 1) = 0) := by omega
    have a2 : (j = i + 14) ↔ (j - (i + 1) = 13) := by omega
    have a3 : (j = i + 16) ↔ (j - (i + 1) = 15) := by omega
    simp only [a1, a2, a3]
  rw [d]
  cases (B i ^^ (regN B i).testBit 0)
  · simp
  · simp

/-- The remainder's bytes, gathered from the highest bit down. -/
theorem gather (x m : Nat) : 2 * (x / 2 ^ (m + 1)) + (if x.testBit m then 1 else 0) = x / 2 ^ m := by
  rw [← half_pow]
  have h := Nat.div_add_mod (x / 2 ^ m) 2
  have t : (if x.testBit m then 1 else 0) = (x / 2 ^ m) % 2 := by
    have : x.testBit m = (x / 2 ^ m).testBit 0 := by rw [Nat.testBit_div_two_pow]; simp
    rw [this, Nat.testBit_zero]
    rcases Nat.mod_two_eq_zero_or_one (x / 2 ^ m) with e | e <;> simp [e]
  omega

/-- The checks' bytes. -/
def crcS (l : List UInt8) : List UInt8 := [UInt8.ofNat (crc l % 256), UInt8.ofNat (crc l / 256)]
def xorS (l : List UInt8) : List UInt8 := [UInt8.ofNat (xorB l)]
def sumS (check : Int) (l : List UInt8) : List UInt8 := if check = 1 then crcS l else if check = 0 then xorS l else []
def sumE (check : Int) : Int := if check = 1 then 0 else if check = 0 then 0 else 1

end Go.Proofs.Ytlbpjcphhocdkaa.Crc
