/-Plain facts on the two checks, of no program: the register that is shifted a byte at a time leaves what the long division of the bits leaves. Plain facts on blocks, of no program: what may be sent, and how it is written. Plain facts on what is heard, of no program: what is left behind the SYN, how a part is cut, where a block's parts stand, and that bytes begin with one block at most. Plain: what is heard of some bytes (P6), said by what it must be; it is one thing only. Plain: the line and its two stations, of no program: what each station does in a tick (P7 to P15). Plain: one speaks: where both stations have something on the line both bid; where one is Sending the other is Receiving; whatever is lost or torn. Plain: one speaks: the two stations together. Plain: one speaks: a tick keeps it so. Plain: a message cut into blocks, and joined again. Plain: what is delivered is the message under way, unchanged, once; Sent is told of what was delivered: kept by a tick. Plain: a station as the program keeps it (its waits count down), what it does in a tick, and that this is what the document's station does. -/
namespace Go.Proofs.YtlbpjcphhocdkabGreatDoor.Crc

def sh (r : Nat) : Nat := if r % 2 = 1 then (r / 2) ^^^ 40961 else r / 2
def shN : Nat → Nat → Nat
  | 0, r => r
  | n + 1, r => sh (shN n r)

theorem sh_lt {r : Nat} (h : r < 65536) : sh r < 65536 := by
  unfold sh
  split
  · exact Nat.xor_lt_two_pow (n := 16) (by omega) (by omega)
  · omega
theorem shN_lt (n : Nat) {r : Nat} (h : r < 65536) : shN n r < 65536 := by
  induction n with
  | zero => exact h
  | succ n ih => exact sh_lt ih

def crc (l : List UInt8) : Nat := l.foldl (fun r c => shN 8 (r ^^^ c.toNat)) 0
def xorB (l : List UInt8) : Nat := l.foldl (fun r c => r ^^^ c.toNat) 0

theorem byte_lt (c : UInt8) : c.toNat < 256 := c.toNat_lt

theorem crc_nil : crc [] = 0 := rfl
theorem xorB_nil : xorB [] = 0 := rfl
theorem crc_snoc (l : List UInt8) (c : UInt8) : crc (l ++ [c]) = shN 8 (crc l ^^^ c.toNat) := by simp [crc, List.foldl_append]
theorem xorB_snoc (l : List UInt8) (c : UInt8) : xorB (l ++ [c]) = xorB l ^^^ c.toNat := by simp [xorB, List.foldl_append]

theorem crc_step_lt {r c : Nat} (h : r < 65536) (hc : c < 256) : r ^^^ c < 65536 := Nat.xor_lt_two_pow (n := 16) (by omega) (by omega)
theorem foldl_crc_lt (l : List UInt8) : ∀ r, r < 65536 → l.foldl (fun r c => shN 8 (r ^^^ c.toNat)) r < 65536 := by
  induction l with
  | nil => intro r h; exact h
  | cons c l ih => intro r h; exact ih _ (shN_lt 8 (crc_step_lt h (byte_lt c)))
theorem crc_lt (l : List UInt8) : crc l < 65536 := foldl_crc_lt l 0 (by decide)
theorem foldl_xor_lt (l : List UInt8) : ∀ r, r < 256 → l.foldl (fun r c => r ^^^ c.toNat) r < 256 := by
  induction l with
  | nil => intro r h; exact h
  | cons c l ih => intro r h; exact ih _ (Nat.xor_lt_two_pow (n := 8) (by omega) (byte_lt c))
theorem xorB_lt (l : List UInt8) : xorB l < 256 := foldl_xor_lt l 0 (by decide)

/-- The bit at place j of the bytes l, lowest first; none behind the end. -/
def bitAt (l : List UInt8) (j : Nat) : Bool := (l.getD (j / 8) 0).toNat.testBit (j % 8)

/-- The register of the long division, bit by bit. -/
def regN (B : Nat → Bool) : Nat → Nat
  | 0 => 0
  | i + 1 => (regN B i / 2) ^^^ (if (B i ^^ (regN B i).testBit 0) then 40961 else 0)

theorem regN_lt (B : Nat → Bool) (i : Nat) : regN B i < 65536 := by
  induction i with
  | zero => show 0 < 65536; omega
  | succ i ih =>
    unfold regN
    split
    · exact Nat.xor_lt_two_pow (n := 16) (by omega) (by omega)
    · rw [Nat.xor_zero]; omega

theorem sh_eq (r : Nat) : sh r = (r / 2) ^^^ (if r.testBit 0 then 40961 else 0) := by
  unfold sh
  by_cases h : r % 2 = 1 <;> simp [Nat.testBit_zero, h]

theorem xor_half (a b : Nat) : (a ^^^ b) / 2 = (a / 2) ^^^ (b / 2) := by
  apply Nat.eq_of_testBit_eq
  intro i
  simp [← Nat.testBit_add_one, Nat.testBit_xor]

theorem half_pow (c k : Nat) : c / 2 ^ k / 2 = c / 2 ^ (k + 1) := by rw [Nat.div_div_eq_div_mul, Nat.pow_succ]

theorem xor_cancel (a b : Nat) : (a ^^^ b) ^^^ b = a := by rw [Nat.xor_assoc, Nat.xor_self, Nat.xor_zero]

/-- Inside a byte. -/
theorem regN_in (B : Nat → Bool) (m r c : Nat) (hr : regN B m = r) (hb : ∀ k, k < 8 → B (m + k) = c.testBit k) :
    ∀ k, k ≤ 8 → regN B (m + k) = shN k (r ^^^ c) ^^^ (c / 2 ^ k) := by
  intro k
  induction k with
  | zero => intro _; simp [shN, hr, xor_cancel]
  | succ k ih =>
    intro hk
    have h := ih (by omega)
    have e : m + (k + 1) = (m + k) + 1 := by omega
    rw [e, regN, h, hb k (by omega), shN, sh_eq]
    generalize shN k (r ^^^ c) = S
    have t : (c.testBit k ^^ (S ^^^ c / 2 ^ k).testBit 0) = S.testBit 0 := by
      rw [Nat.testBit_xor, Nat.testBit_div_two_pow, Nat.zero_add]
      generalize S.testBit 0 = x
      generalize c.testBit k = y
      cases x <;> cases y <;> rfl
    rw [t, xor_half, half_pow]
    rw [Nat.xor_assoc, Nat.xor_comm (c / 2 ^ (k + 1)), ← Nat.xor_assoc]

theorem bitAt_in (l : List UInt8) (m k : Nat) (hk : k < 8) : bitAt l (8 * m + k) = (l.getD m 0).toNat.testBit k := by
  unfold bitAt
  have e1 : (8 * m + k) / 8 = m := by omega
  have e2 : (8 * m + k) % 8 = k := by omega
  rw [e1, e2]

theorem regN_crc (l : List UInt8) : ∀ m, m ≤ l.length → regN (bitAt l) (8 * m) = crc (l.take m) := by
  intro m
  induction m with
  | zero => intro _; rfl
  | succ m ih =>
    intro hm
    have h := regN_in (bitAt l) (8 * m) _ (l.getD m 0).toNat (ih (by omega)) (fun k hk => bitAt_in l m k hk) 8 (by omega)
    have e : 8 * (m + 1) = 8 * m + 8 := by omega
    rw [e, h]
    have hz : (l.getD m 0).toNat / 2 ^ 8 = 0 := Nat.div_eq_of_lt (byte_lt _)
    rw [hz, Nat.xor_zero, List.take_succ_eq_append_getElem (by omega), crc_snoc]
    congr 3
    simp [List.getD, List.getElem?_eq_getElem (show m < l.length by omega)]

theorem regN_all (l : List UInt8) : regN (bitAt l) (8 * l.length) = crc l := by
  rw [regN_crc l l.length (Nat.le_refl _), List.take_length]

/-- Which places the divisor turns. -/
theorem poly_bit (j : Nat) : (40961 : Nat).testBit j = (decide (j = 0) || decide (j = 13) || decide (j = 15)) := by
  by_cases h : j < 16
  · have : ∀ j : Fin 16, (40961 : Nat).testBit j.val = (decide (j.val = 0) || decide (j.val = 13) || decide (j.val = 15)) := by decide
    exact this ⟨j, h⟩
  · have h16 : (40961 : Nat) < 2 ^ j := Nat.lt_of_lt_of_le (by decide : 40961 < 2 ^ 16) (Nat.pow_le_pow_right (by decide) (by omega))
    rw [Nat.testBit_lt_two_pow h16]
    simp
    omega

/-- What the array holds behind i steps, from place i on. -/
def left (B : Nat → Bool) (i j : Nat) : Bool := B j ^^ (regN B i).testBit (j - i)

theorem left_step (B : Nat → Bool) (i j : Nat) (h : i + 1 ≤ j) :
    left B (i + 1) j = (left B i j ^^ (left B i i && (decide (j = i + 1) || decide (j = i + 14) || decide (j = i + 16)))) := by
  unfold left
  rw [regN, Nat.testBit_xor]
  have e : j - i = (j - (i + 1)) + 1 := by omega
  have e2 : i - i = 0 := by omega
  rw [e, e2, Nat.testBit_add_one]
  have d : (decide (j = i + 1) || decide (j = i + 14) || decide (j = i + 16)) = (40961 : Nat).testBit (j - (i + 1)) := by
    rw [poly_bit]
    have a1 : (j = i + 1) ↔ (j - (i + 1) = 0) := by omega
    have a2 : (j = i + 14) ↔ (j - (i + 1) = 13) := by omega
    have a3 : (j = i + 16) ↔ (j - (i + 1) = 15) := by omega
    simp only [a1, a2, a3]
  rw [d]
  cases (B i ^^ (regN B i).testBit 0)
  · simp
  · simp

/-- The remainder's bytes, gathered from the highest bit down. -/
theorem gather (x m : Nat) : 2 * (x / 2 ^ (m + 1)) + (if x.testBit m then 1 else 0) = x / 2 ^ m := by
  rw [← half_pow]
  have h := Nat.div_add_mod (x / 2 ^ m) 2
  have t : (if x.testBit m then 1 else 0) = (x / 2 ^ m) % 2 := by
    have : x.testBit m = (x / 2 ^ m).testBit 0 := by rw [Nat.testBit_div_two_pow]; simp
    rw [this, Nat.testBit_zero]
    rcases Nat.mod_two_eq_zero_or_one (x / 2 ^ m) with e | e <;> simp [e]
  omega

/-- The checks' bytes. -/
def crcS (l : List UInt8) : List UInt8 := [UInt8.ofNat (crc l % 256), UInt8.ofNat (crc l / 256)]
def xorS (l : List UInt8) : List UInt8 := [UInt8.ofNat (xorB l)]
def sumS (check : Int) (l : List UInt8) : List UInt8 := if check = 1 then crcS l else if check = 0 then xorS l else []
def sumE (check : Int) : Int := if check = 1 then 0 else if check = 0 then 0 else 1

end Go.Proofs.YtlbpjcphhocdkabGreatDoor.Crc

namespace Go.Proofs.YtlbpjcphhocdkabGreatDoor.Blk

/-- The control characters. -/
def isCtl (u : UInt8) : Bool := decide (u.toNat = 1 ∨ u.toNat = 2 ∨ u.toNat = 3 ∨ u.toNat = 4 ∨ u.toNat = 5 ∨ u.toNat = 16 ∨ u.toNat = 21 ∨ u.toNat = 22 ∨ u.toNat = 23 ∨ u.toNat = 31)
def hasCtl (l : List UInt8) : Bool := l.any isCtl
def headOk (h : List UInt8) : Bool := decide (h.length ≤ 8) && !hasCtl h
def partOk (clear : Bool) (p : List UInt8) : Bool := decide (p.length ≤ 32) && (clear || !hasCtl p)
/-- The error of a block. -/
def berr (h : List UInt8) (ps : List (List UInt8)) (clear : Bool) : Int :=
  if headOk h = false then 2 else if ps.length < 1 ∨ 4 < ps.length then 3 else if ps.all (partOk clear) = false then 4 else 0

def dbl (l : List UInt8) : List UInt8 := l.flatMap fun c => if c.toNat = 16 then [16, 16] else [c]
def txt (clear : Bool) (p : List UInt8) : List UInt8 := if clear then dbl p else p
def openL (h : List UInt8) (clear : Bool) : List UInt8 := (if h = [] then [] else 1 :: h) ++ ((if clear then [16] else []) ++ [2])
def endC (last : Bool) (n i : Nat) : UInt8 := if i + 1 < n then 31 else if last then 3 else 23
def endL (clear last : Bool) (n i : Nat) : List UInt8 := (if clear then [16] else []) ++ [endC last n i]
/-- What the i-th check covers. -/
def seg (h : List UInt8) (ps : List (List UInt8)) (clear last : Bool) (i : Nat) : List UInt8 :=
  (if i = 0 then openL h clear else []) ++ (txt clear (ps.getD i []) ++ endL clear last ps.length i)
def bodyTo (h : List UInt8) (ps : List (List UInt8)) (clear last : Bool) (check : Int) : Nat → List UInt8
  | 0 => []
  | k + 1 => bodyTo h ps clear last check k ++ (seg h ps clear last k ++ Crc.sumS check (seg h ps clear last k))
def body (h : List UInt8) (ps : List (List UInt8)) (clear last : Bool) (check : Int) : List UInt8 := bodyTo h ps clear last check ps.length
/-- P5. -/
def encE (h : List UInt8) (ps : List (List UInt8)) (clear : Bool) (check : Int) : Int :=
  if check = 0 ∨ check = 1 then berr h ps clear else 1
def encS (h : List UInt8) (ps : List (List UInt8)) (clear last : Bool) (check : Int) : List UInt8 :=
  if encE h ps clear check = 0 then [22, 22] ++ body h ps clear last check ++ [255] else []

theorem hasCtl_snoc (l : List UInt8) (c : UInt8) : hasCtl (l ++ [c]) = (hasCtl l || isCtl c) := by simp [hasCtl]
theorem hasCtl_take {l : List UInt8} {k : Nat} (h : hasCtl (l.take k) = true) : hasCtl l = true := by
  unfold hasCtl at *
  rw [List.any_eq_true] at *
  obtain ⟨x, hx, hc⟩ := h
  exact ⟨x, List.mem_of_mem_take hx, hc⟩
theorem dbl_snoc (l : List UInt8) (c : UInt8) : dbl (l ++ [c]) = dbl l ++ (if c.toNat = 16 then [16, 16] else [c]) := by simp [dbl]
theorem dbl_length (l : List UInt8) : (dbl l).length ≤ 2 * l.length := by
  unfold dbl
  induction l with
  | nil => simp
  | cons c l ih => simp only [List.flatMap_cons, List.length_append, List.length_cons]; split <;> simp only [List.length_cons, List.length_nil] <;> omega
theorem txt_length (clear : Bool) (l : List UInt8) : (txt clear l).length ≤ 2 * l.length := by
  unfold txt
  split
  · exact dbl_length l
  · omega
theorem openL_length (h : List UInt8) (clear : Bool) : (openL h clear).length ≤ h.length + 3 := by
  unfold openL
  split <;> split <;> simp
  all_goals omega
theorem endL_length (clear last : Bool) (n i : Nat) : (endL clear last n i).length ≤ 2 := by
  unfold endL
  split <;> simp
theorem sumS_length (check : Int) (l : List UInt8) : (Crc.sumS check l).length ≤ 2 := by
  unfold Crc.sumS
  split
  · simp [Crc.crcS]
  · split <;> simp [Crc.xorS]
theorem seg_length (h : List UInt8) (ps : List (List UInt8)) (clear last : Bool) (i m : Nat) (hm : (ps.getD i []).length ≤ m) : (seg h ps clear last i).length ≤ h.length + 2 * m + 5 := by
  unfold seg
  have h1 := openL_length h clear
  have h2 := txt_length clear (ps.getD i [])
  have h3 := endL_length clear last ps.length i
  split <;> simp only [List.length_append, List.length_nil] <;> omega
theorem bodyTo_length (h : List UInt8) (ps : List (List UInt8)) (clear last : Bool) (check : Int) (m : Nat) (hm : ∀ i, (ps.getD i []).length ≤ m) (k : Nat) :
    (bodyTo h ps clear last check k).length ≤ k * (h.length + 2 * m + 7) := by
  induction k with
  | zero => simp [bodyTo]
  | succ k ih =>
    have h1 := seg_length h ps clear last k m (hm k)
    have h2 := sumS_length check (seg h ps clear last k)
    simp only [bodyTo, List.length_append]
    have : (k + 1) * (h.length + 2 * m + 7) = k * (h.length + 2 * m + 7) + (h.length + 2 * m + 7) := Nat.succ_mul _ _
    omega

/-- Of a good block no part is longer than 32. -/
theorem parts_le {ps : List (List UInt8)} {clear : Bool} (h : ps.all (partOk clear) = true) (i : Nat) : (ps.getD i []).length ≤ 32 := by
  by_cases hi : i < ps.length
  · have := List.all_eq_true.1 h ps[i] (List.getElem_mem hi)
    unfold partOk at this
    simp only [Bool.and_eq_true, decide_eq_true_eq] at this
    simpa [List.getD, List.getElem?_eq_getElem hi] using this.1
  · simp [List.getD, List.getElem?_eq_none (Nat.le_of_not_lt hi)]
theorem berr_ok {h : List UInt8} {ps : List (List UInt8)} {clear : Bool} (e : berr h ps clear = 0) :
    headOk h = true ∧ 1 ≤ ps.length ∧ ps.length ≤ 4 ∧ ps.all (partOk clear) = true := by
  unfold berr at e
  split at e
  · omega
  · split at e
    · omega
    · split at e
      · omega
      · rename_i a b c
        refine ⟨by simpa using a, by omega, by omega, by simpa using c⟩
theorem headOk_le {h : List UInt8} (e : headOk h = true) : h.length ≤ 8 := by
  unfold headOk at e
  simp only [Bool.and_eq_true, decide_eq_true_eq] at e
  exact e.1
end Go.Proofs.YtlbpjcphhocdkabGreatDoor.Blk

namespace Go.Proofs.YtlbpjcphhocdkabGreatDoor.Prs
open Blk

def syn (u : UInt8) : Bool := decide (u.toNat = 22)
/-- What is left behind the first two SYN and those that follow. -/
def restL : List UInt8 → List UInt8
  | a :: b :: t => if syn a = true ∧ syn b = true then t.dropWhile syn else restL (b :: t)
  | _ => []

theorem drop_two (l : List UInt8) (k : Nat) (h : k + 1 < l.length) : l.drop k = l[k] :: l[k + 1] :: l.drop (k + 2) := by
  rw [List.drop_eq_getElem_cons (by omega), List.drop_eq_getElem_cons h]
theorem dw_step (l : List UInt8) (k : Nat) (h : k < l.length) (hs : l[k].toNat = 22) : (l.drop k).dropWhile syn = (l.drop (k + 1)).dropWhile syn := by
  rw [List.drop_eq_getElem_cons h, List.dropWhile_cons_of_pos (by simp [syn, hs])]
theorem dw_stop (l : List UInt8) (k : Nat) (h : k < l.length) (hs : ¬ l[k].toNat = 22) : (l.drop k).dropWhile syn = l.drop k := by
  rw [List.drop_eq_getElem_cons h, List.dropWhile_cons_of_neg (by simp [syn, hs])]
theorem dw_end (l : List UInt8) (k : Nat) (h : l.length ≤ k) : (l.drop k).dropWhile syn = [] := by rw [List.drop_of_length_le h]; rfl
theorem restL_hit (l : List UInt8) (k : Nat) (h : k + 1 < l.length) (h1 : l[k].toNat = 22) (h2 : l[k + 1].toNat = 22) : restL (l.drop k) = (l.drop k).dropWhile syn := by
  rw [dw_step l k (by omega) h1, dw_step l (k + 1) h h2, drop_two l k h]
  simp only [restL, syn, h1, h2, decide_true, and_self, if_true]
theorem restL_step (l : List UInt8) (k : Nat) (h : k + 1 < l.length) (hn : ¬ (l[k].toNat = 22 ∧ l[k + 1].toNat = 22)) : restL (l.drop k) = restL (l.drop (k + 1)) := by
  rw [drop_two l k h, List.drop_eq_getElem_cons h]
  simp only [restL, syn, decide_eq_true_eq]
  rw [if_neg hn]
theorem restL_end (l : List UInt8) (k : Nat) (h : l.length ≤ k + 1) : restL (l.drop k) = [] := by
  have : (l.drop k).length ≤ 1 := by simp; omega
  match hl : l.drop k, this with
  | [], _ => rfl
  | [a], _ => rfl
  | a :: b :: t, h => simp at h

/-- How the program cuts a part off: its text, its end, how many bytes these take. -/
def cutF (c : Bool) : List UInt8 → List UInt8 × UInt8 × Nat
  | [] => ([], 0, 0)
  | [x] => if c = true ∧ x.toNat = 16 then ([], 0, 2) else if c = false ∧ isCtl x = true then ([], x, 1) else ([x], 0, 1)
  | x :: y :: t =>
    if c = true ∧ x.toNat = 16 then
      if y.toNat = 16 then (y :: (cutF c t).1, (cutF c t).2.1, (cutF c t).2.2 + 2) else ([], y, 2)
    else if c = false ∧ isCtl x = true then ([], x, 1)
    else (x :: (cutF c (y :: t)).1, (cutF c (y :: t)).2.1, (cutF c (y :: t)).2.2 + 1)

theorem cutF_ctl (x : UInt8) (t : List UInt8) (h : isCtl x = true) : cutF false (x :: t) = ([], x, 1) := by
  cases t <;> simp [cutF, h]
theorem cutF_txt (c : Bool) (x : UInt8) (t : List UInt8) (h1 : ¬ (c = true ∧ x.toNat = 16)) (h2 : ¬ (c = false ∧ isCtl x = true)) : cutF c (x :: t) = (x :: (cutF c t).1, (cutF c t).2.1, (cutF c t).2.2 + 1) := by
  cases t with
  | nil => simp only [cutF, if_neg h1, if_neg h2]
  | cons y t => rw [cutF, if_neg h1, if_neg h2]
theorem cutF_two (x y : UInt8) (t : List UInt8) (h1 : x.toNat = 16) (h2 : y.toNat = 16) : cutF true (x :: y :: t) = (y :: (cutF true t).1, (cutF true t).2.1, (cutF true t).2.2 + 2) := by
  rw [cutF, if_pos ⟨rfl, h1⟩, if_pos h2]
theorem cutF_out (x y : UInt8) (t : List UInt8) (h1 : x.toNat = 16) (h2 : ¬ y.toNat = 16) : cutF true (x :: y :: t) = ([], y, 2) := by
  rw [cutF, if_pos ⟨rfl, h1⟩, if_neg h2]
theorem cutF_lone (x : UInt8) (h1 : x.toNat = 16) : cutF true [x] = ([], 0, 2) := by rw [cutF, if_pos ⟨rfl, h1⟩]

theorem cutF_plain (p : List UInt8) (e : UInt8) (post : List UInt8) (hp : hasCtl p = false) (he : isCtl e = true) : cutF false (p ++ e :: post) = (p, e, p.length + 1) := by
  induction p with
  | nil => exact cutF_ctl e post he
  | cons a p ih =>
    simp only [hasCtl, List.any_cons, Bool.or_eq_false_iff] at hp
    rw [List.cons_append, cutF_txt false a _ (by simp) (by simp [hp.1]), ih hp.2]
    rfl
theorem dbl_cons (a : UInt8) (p : List UInt8) : dbl (a :: p) = (if a.toNat = 16 then [16, 16] else [a]) ++ dbl p := by simp [dbl]
theorem cutF_clear (p : List UInt8) (e : UInt8) (post : List UInt8) (he : ¬ e.toNat = 16) : cutF true (dbl p ++ 16 :: e :: post) = (p, e, (dbl p).length + 2) := by
  induction p with
  | nil => exact cutF_out 16 e post rfl he
  | cons a p ih =>
    by_cases h : a.toNat = 16
    · have ea : a = 16 := UInt8.toNat_inj.1 h
      subst ea
      rw [dbl_cons, if_pos h]
      show cutF true (16 :: 16 :: (dbl p ++ 16 :: e :: post)) = _
      rw [cutF_two 16 16 _ rfl rfl, ih]
      rfl
    · rw [dbl_cons, if_neg h]
      show cutF true (a :: (dbl p ++ 16 :: e :: post)) = _
      rw [cutF_txt true a _ (by simp [h]) (by simp), ih]
      simp only [List.length_append, List.length_cons, List.length_nil, Prod.mk.injEq, true_and]
      omega
theorem cutF_len (c : Bool) : ∀ l, (cutF c l).1.length ≤ l.length
  | [] => by simp [cutF]
  | [x] => by
    rw [cutF]
    split
    · simp
    · split <;> simp
  | x :: y :: t => by
    have h1 := cutF_len c (y :: t)
    have h2 := cutF_len c t
    rw [cutF]
    split
    · split
      · simp only [List.length_cons]; omega
      · simp
    · split
      · simp
      · simp only [List.length_cons] at h1 ⊢; omega

/-- How the document's reading cuts a part off: its text, and where its end's character stands. -/
def partR (c : Bool) : List UInt8 → Option (List UInt8 × Nat)
  | [] => none
  | [x] => if c = true ∧ x.toNat = 16 then none else if c = false ∧ (x.toNat = 31 ∨ x.toNat = 23 ∨ x.toNat = 3) then some ([], 0) else none
  | x :: y :: t =>
    if c = true ∧ x.toNat = 16 then
      if y.toNat = 16 then (partR c t).map (fun q => (y :: q.1, q.2 + 2)) else some ([], 1)
    else if c = false ∧ (x.toNat = 31 ∨ x.toNat = 23 ∨ x.toNat = 3) then some ([], 0)
    else (partR c (y :: t)).map (fun q => (x :: q.1, q.2 + 1))

theorem partR_end (x : UInt8) (t : List UInt8) (h : x.toNat = 31 ∨ x.toNat = 23 ∨ x.toNat = 3) : partR false (x :: t) = some ([], 0) := by
  cases t <;> simp [partR, h]
theorem partR_txt (c : Bool) (x : UInt8) (t : List UInt8) (h1 : ¬ (c = true ∧ x.toNat = 16)) (h2 : ¬ (c = false ∧ (x.toNat = 31 ∨ x.toNat = 23 ∨ x.toNat = 3))) : partR c (x :: t) = (partR c t).map (fun q => (x :: q.1, q.2 + 1)) := by
  cases t with
  | nil => simp only [partR, if_neg h1, if_neg h2, Option.map_none]
  | cons y t => rw [partR, if_neg h1, if_neg h2]
theorem partR_two (x y : UInt8) (t : List UInt8) (h1 : x.toNat = 16) (h2 : y.toNat = 16) : partR true (x :: y :: t) = (partR true t).map (fun q => (y :: q.1, q.2 + 2)) := by
  rw [partR, if_pos ⟨rfl, h1⟩, if_pos h2]
theorem partR_out (x y : UInt8) (t : List UInt8) (h1 : x.toNat = 16) (h2 : ¬ y.toNat = 16) : partR true (x :: y :: t) = some ([], 1) := by
  rw [partR, if_pos ⟨rfl, h1⟩, if_neg h2]
theorem partR_lone (x : UInt8) (h1 : x.toNat = 16) : partR true [x] = none := by rw [partR, if_pos ⟨rfl, h1⟩]

theorem partR_plain (p : List UInt8) (e : UInt8) (post : List UInt8) (hp : hasCtl p = false) (he : e.toNat = 31 ∨ e.toNat = 23 ∨ e.toNat = 3) : partR false (p ++ e :: post) = some (p, p.length) := by
  induction p with
  | nil => exact partR_end e post he
  | cons a p ih =>
    simp only [hasCtl, List.any_cons, Bool.or_eq_false_iff] at hp
    have h1 : ¬ (a.toNat = 31 ∨ a.toNat = 23 ∨ a.toNat = 3) := by
      have := hp.1
      unfold isCtl at this
      simp only [decide_eq_false_iff_not] at this
      omega
    rw [List.cons_append, partR_txt false a _ (by simp) (by simp only [true_and]; exact h1), ih hp.2]
    rfl
theorem partR_clear (p : List UInt8) (e : UInt8) (post : List UInt8) (he : ¬ e.toNat = 16) : partR true (dbl p ++ 16 :: e :: post) = some (p, (dbl p).length + 1) := by
  induction p with
  | nil => exact partR_out 16 e post rfl he
  | cons a p ih =>
    by_cases h : a.toNat = 16
    · have ea : a = 16 := UInt8.toNat_inj.1 h
      subst ea
      rw [dbl_cons, if_pos h]
      show partR true (16 :: 16 :: (dbl p ++ 16 :: e :: post)) = _
      rw [partR_two 16 16 _ rfl rfl, ih]
      rfl
    · rw [dbl_cons, if_neg h]
      show partR true (a :: (dbl p ++ 16 :: e :: post)) = _
      rw [partR_txt true a _ (by simp [h]) (by simp), ih]
      simp only [List.length_append, List.length_cons, List.length_nil, Option.map_some, Option.some.injEq, Prod.mk.injEq, true_and]
      omega

/-- What stands ahead of the j-th part. -/
def pre (h : List UInt8) (ps : List (List UInt8)) (c t : Bool) (k : Int) (j : Nat) : List UInt8 := if j = 0 then openL h c else bodyTo h ps c t k j

/-- The bytes r begin with this block's body. -/
structure Good (k : Int) (r : List UInt8) (h : List UInt8) (ps : List (List UInt8)) (c t : Bool) (x : List UInt8) : Prop where
  ok : berr h ps c = 0
  kc : k = 0 ∨ k = 1
  eq : r = body h ps c t k ++ x

theorem sum_len {k : Int} (hk : k = 0 ∨ k = 1) (l : List UInt8) : (Crc.sumS k l).length = k.toNat + 1 := by
  rcases hk with rfl | rfl <;> rfl
theorem esc_len (c t : Bool) (n j : Nat) : (endL c t n j).length = (if c then 2 else 1) := by cases c <;> simp [endL]

theorem bodyTo_pre (h : List UInt8) (ps : List (List UInt8)) (c t : Bool) (k : Int) (j : Nat) :
    bodyTo h ps c t k (j + 1) = pre h ps c t k j ++ (txt c (ps.getD j []) ++ (endL c t ps.length j ++ Crc.sumS k (seg h ps c t j))) := by
  unfold pre
  by_cases hj : j = 0
  · subst hj; simp [bodyTo, seg]
  · simp [bodyTo, seg, hj]
theorem bodyTo_more (h : List UInt8) (ps : List (List UInt8)) (c t : Bool) (k : Int) (j m : Nat) : ∃ y, bodyTo h ps c t k (j + m) = bodyTo h ps c t k j ++ y := by
  induction m with
  | zero => exact ⟨[], by simp⟩
  | succ m ih =>
    obtain ⟨y, hy⟩ := ih
    rw [← Nat.add_assoc]
    exact ⟨y ++ _, by rw [bodyTo, hy, List.append_assoc]⟩
theorem pre_succ (h : List UInt8) (ps : List (List UInt8)) (c t : Bool) (k : Int) (j : Nat) : pre h ps c t k (j + 1) = bodyTo h ps c t k (j + 1) := by unfold pre; rw [if_neg (by omega)]

theorem Good.part {k : Int} {r h : List UInt8} {ps : List (List UInt8)} {c t : Bool} {x : List UInt8} (g : Good k r h ps c t x) (j : Nat) (hj : j < ps.length) :
    ∃ y, r.drop (pre h ps c t k j).length = txt c (ps.getD j []) ++ (endL c t ps.length j ++ (Crc.sumS k (seg h ps c t j) ++ y)) := by
  obtain ⟨y, hy⟩ := bodyTo_more h ps c t k (j + 1) (ps.length - (j + 1))
  rw [show j + 1 + (ps.length - (j + 1)) = ps.length by omega, bodyTo_pre] at hy
  refine ⟨y ++ x, ?_⟩
  rw [g.eq]
  unfold body
  rw [hy]
  simp only [List.append_assoc]
  exact List.drop_left
theorem Good.step {k : Int} {r h : List UInt8} {ps : List (List UInt8)} {c t : Bool} {x : List UInt8} (g : Good k r h ps c t x) (j : Nat) :
    (pre h ps c t k (j + 1)).length = (pre h ps c t k j).length + (txt c (ps.getD j [])).length + (if c then 2 else 1) + (k.toNat + 1) := by
  rw [pre_succ, bodyTo_pre]
  simp only [List.length_append, sum_len g.kc, esc_len]
  omega

theorem Good.openR {k : Int} {r h : List UInt8} {ps : List (List UInt8)} {c t : Bool} {x : List UInt8} (g : Good k r h ps c t x) : ∃ y, r = openL h c ++ y := by
  obtain ⟨h1, h2, h3, h4⟩ := berr_ok g.ok
  obtain ⟨y, hy⟩ := bodyTo_more h ps c t k 1 (ps.length - 1)
  rw [show 1 + (ps.length - 1) = ps.length by omega, show (1 : Nat) = 0 + 1 from rfl, bodyTo_pre] at hy
  refine ⟨(txt c (ps.getD 0 []) ++ (endL c t ps.length 0 ++ Crc.sumS k (seg h ps c t 0))) ++ y ++ x, ?_⟩
  rw [g.eq]
  unfold body
  rw [hy]
  simp only [List.append_assoc, pre, if_true]

theorem headOk_no {h : List UInt8} (e : headOk h = true) : hasCtl h = false := by
  unfold headOk at e
  simp only [Bool.and_eq_true, Bool.not_eq_true'] at e
  exact e.2

/-- The head and the mark Clear, as the bytes tell them. -/
def headP (f : UInt8 → Bool) (r : List UInt8) : List UInt8 := if (r.getD 0 0).toNat = 1 then (r.drop 1).takeWhile f else []
def clearP (r h : List UInt8) : Bool := decide ((r.getD (if h = [] then 0 else 1 + h.length) 0).toNat = 16)

theorem takeWhile_upto (f : UInt8 → Bool) (h : List UInt8) (e : UInt8) (y : List UInt8) (hh : ∀ u ∈ h, f u = true) (he : f e = false) : (h ++ e :: y).takeWhile f = h := by
  induction h with
  | nil => simp [he]
  | cons a h ih =>
    rw [List.cons_append, List.takeWhile_cons_of_pos (hh a (by simp)), ih (fun u hu => hh u (by simp [hu]))]
theorem Good.head {k : Int} {r h : List UInt8} {ps : List (List UInt8)} {c t : Bool} {x : List UInt8} (g : Good k r h ps c t x) (f : UInt8 → Bool) (hf : ∀ u, isCtl u = false → f u = true) (h2 : f 2 = false) (h16 : f 16 = false) :
    headP f r = h ∧ clearP r h = c := by
  obtain ⟨y, hy⟩ := g.openR
  have hc := headOk_no (berr_ok g.ok).1
  subst hy
  unfold headP clearP openL
  by_cases hn : h = []
  · subst hn
    cases c <;> simp
  · have hall : ∀ u ∈ h, f u = true := fun u hu => hf u (by
      unfold hasCtl at hc
      rw [List.any_eq_false] at hc
      simpa using hc u hu)
    rw [if_neg hn, if_neg hn]
    cases c
    · refine ⟨?_, ?_⟩
      · simp only [Bool.false_eq_true, if_false, List.nil_append, List.cons_append, List.append_assoc]
        simp only [List.getD_cons_zero, show (1 : UInt8).toNat = 1 from rfl, if_true, List.drop_succ_cons, List.drop_zero]
        exact takeWhile_upto f h 2 y hall h2
      · simp [List.getD, Nat.add_comm 1 h.length]
    · refine ⟨?_, ?_⟩
      · simp only [if_true, List.cons_append, List.nil_append, List.append_assoc]
        simp only [List.getD_cons_zero, show (1 : UInt8).toNat = 1 from rfl, if_true, List.drop_succ_cons, List.drop_zero]
        exact takeWhile_upto f h 16 (2 :: y) hall h16
      · simp [List.getD, Nat.add_comm 1 h.length]

theorem endC_ctl (t : Bool) (n j : Nat) : isCtl (endC t n j) = true ∧ ((endC t n j).toNat = 31 ∨ (endC t n j).toNat = 23 ∨ (endC t n j).toNat = 3) ∧ ¬ (endC t n j).toNat = 16 := by
  unfold endC
  split
  · decide
  · cases t <;> decide
theorem endC_mid' (t : Bool) (n j : Nat) (h : j + 1 < n) : (endC t n j).toNat = 31 := by simp [endC, h]
theorem endC_end' (t : Bool) (n j : Nat) (h : ¬ j + 1 < n) : ¬ (endC t n j).toNat = 31 ∧ ((endC t n j).toNat = 3 ↔ t = true) := by
  cases t <;> simp [endC, h]

theorem part_plain {k : Int} {r h : List UInt8} {ps : List (List UInt8)} {t : Bool} {x : List UInt8} {c : Bool} (g : Good k r h ps c t x) (j : Nat) (hj : j < ps.length) (hc : c = false) : hasCtl (ps.getD j []) = false := by
  have h4 := (berr_ok g.ok).2.2.2
  have := List.all_eq_true.1 h4 ps[j] (List.getElem_mem hj)
  unfold partOk at this
  subst hc
  simp only [Bool.and_eq_true, Bool.false_or, Bool.not_eq_true'] at this
  simpa [List.getD, List.getElem?_eq_getElem hj] using this.2

/-- What each way of cutting finds of a good block's part. -/
theorem Good.cut {k : Int} {r h : List UInt8} {ps : List (List UInt8)} {c t : Bool} {x : List UInt8} (g : Good k r h ps c t x) (j : Nat) (hj : j < ps.length) :
    cutF c (r.drop (pre h ps c t k j).length) = (ps.getD j [], endC t ps.length j, (txt c (ps.getD j [])).length + (if c then 2 else 1)) := by
  obtain ⟨y, hy⟩ := g.part j hj
  rw [hy]
  have he := endC_ctl t ps.length j
  cases hc : c
  · subst hc
    simp only [txt, endL, Bool.false_eq_true, if_false, List.nil_append, List.cons_append]
    exact cutF_plain _ _ _ (part_plain g j hj rfl) he.1
  · subst hc
    simp only [txt, endL, if_true, List.nil_append, List.cons_append]
    exact cutF_clear _ _ _ he.2.2
theorem Good.cutR {k : Int} {r h : List UInt8} {ps : List (List UInt8)} {c t : Bool} {x : List UInt8} (g : Good k r h ps c t x) (j : Nat) (hj : j < ps.length) :
    partR c (r.drop (pre h ps c t k j).length) = some (ps.getD j [], (txt c (ps.getD j [])).length + (if c then 1 else 0)) ∧
    r.getD ((pre h ps c t k j).length + ((txt c (ps.getD j [])).length + (if c then 1 else 0))) 0 = endC t ps.length j := by
  obtain ⟨y, hy⟩ := g.part j hj
  have he := endC_ctl t ps.length j
  have hget : ∀ m, r.getD ((pre h ps c t k j).length + m) 0 = (r.drop (pre h ps c t k j).length).getD m 0 := by
    intro m
    simp [List.getD, List.getElem?_drop]
  rw [hget, hy]
  cases hc : c
  · subst hc
    simp only [txt, endL, Bool.false_eq_true, if_false, List.nil_append, List.cons_append, Nat.add_zero]
    exact ⟨partR_plain _ _ _ (part_plain g j hj rfl) he.2.1, by simp [List.getD]⟩
  · subst hc
    simp only [txt, endL, if_true, List.nil_append, List.cons_append]
    refine ⟨partR_clear _ _ _ he.2.2, by simp [List.getD]⟩

/-- Bytes begin with one block at most. -/
theorem Good.one {k : Int} {r h h' : List UInt8} {ps ps' : List (List UInt8)} {c c' t t' : Bool} {x x' : List UInt8} (g : Good k r h ps c t x) (g' : Good k r h' ps' c' t' x') :
    h = h' ∧ ps = ps' ∧ c = c' ∧ t = t' ∧ x = x' := by
  have hf : ∀ u, isCtl u = false → (fun u => !isCtl u) u = true := by intro u hu; simp [hu]
  have a := g.head (fun u => !isCtl u) hf rfl rfl
  have a' := g'.head (fun u => !isCtl u) hf rfl rfl
  have eh : h = h' := a.1.symm.trans a'.1
  subst eh
  have ec : c = c' := a.2.symm.trans a'.2
  subst ec
  have n1 := (berr_ok g.ok).2.1
  have n1' := (berr_ok g'.ok).2.1
  have key : ∀ j, j ≤ ps.length → j ≤ ps'.length → (pre h ps c t k j).length = (pre h ps' c t' k j).length ∧ ps.take j = ps'.take j := by
    intro j
    induction j with
    | zero => intro _ _; exact ⟨by simp [pre], rfl⟩
    | succ j ih =>
      intro h1 h2
      obtain ⟨e1, e2⟩ := ih (by omega) (by omega)
      have b := g.cut j (by omega)
      have b' := g'.cut j (by omega)
      rw [e1] at b
      have b2 := b.symm.trans b'
      have e3 : ps.getD j [] = ps'.getD j [] := (Prod.mk.inj b2).1
      refine ⟨by rw [g.step j, g'.step j, e1, e3], ?_⟩
      rw [List.take_succ_eq_append_getElem (by omega), List.take_succ_eq_append_getElem (by omega), e2]
      simp [List.getD, List.getElem?_eq_getElem (show j < ps.length by omega), List.getElem?_eq_getElem (show j < ps'.length by omega)] at e3
      rw [e3]
  have ends : ∀ j, j < ps.length → j < ps'.length → endC t ps.length j = endC t' ps'.length j := by
    intro j h1 h2
    have b := g.cut j h1
    have b' := g'.cut j h2
    rw [(key j (by omega) (by omega)).1] at b
    exact (Prod.mk.inj (Prod.mk.inj (b.symm.trans b')).2).1
  have hlen : ps.length = ps'.length := by
    rcases Nat.lt_trichotomy ps.length ps'.length with hl | hl | hl
    · have e := ends (ps.length - 1) (by omega) (by omega)
      have m := endC_mid' t' ps'.length (ps.length - 1) (by omega)
      have q := (endC_end' t ps.length (ps.length - 1) (by omega)).1
      rw [e] at q; exact absurd m q
    · exact hl
    · have e := ends (ps'.length - 1) (by omega) (by omega)
      have m := endC_mid' t ps.length (ps'.length - 1) (by omega)
      have q := (endC_end' t' ps'.length (ps'.length - 1) (by omega)).1
      rw [← e] at q; exact absurd m q
  have eps : ps = ps' := by
    have := (key ps.length (by omega) (by omega)).2
    rw [List.take_length, hlen, List.take_length] at this
    exact this
  subst eps
  have et : t = t' := by
    have e := ends (ps.length - 1) (by omega) (by omega)
    have q := (endC_end' t ps.length (ps.length - 1) (by omega)).2
    have q' := (endC_end' t' ps.length (ps.length - 1) (by omega)).2
    rw [e] at q
    have : t = true ↔ t' = true := q.symm.trans q'
    cases t <;> cases t' <;> simp_all
  subst et
  refine ⟨rfl, rfl, rfl, rfl, ?_⟩
  have := g.eq.symm.trans g'.eq
  exact List.append_cancel_left this

end Go.Proofs.YtlbpjcphhocdkabGreatDoor.Prs

namespace Go.Proofs.YtlbpjcphhocdkabGreatDoor

/-- Does it begin as a block? -/
def begins (r : List UInt8) : Bool := decide ((r.getD 0 0).toNat = 1 ∨ (r.getD 0 0).toNat = 2 ∨ ((r.getD 0 0).toNat = 16 ∧ (r.getD 1 0).toNat = 2))

/-- The body of P4 for a kind; empty where there is none. -/
def sbody (k : Int) : List UInt8 :=
  if k = 3 then [4, 5] else if k = 4 then [5] else if k = 5 then [4] else if k = 6 then [21]
  else if k = 7 then [16, 48] else if k = 8 then [16, 49] else if k = 9 then [16, 59] else []

/-- Which kind the bytes are, of those that carry no block. -/
def SKind (r : List UInt8) (n : Nat) : Prop := (3 ≤ n ∧ n ≤ 9 ∧ r = sbody n ++ [255]) ∨ (n = 0 ∧ ∀ k : Nat, 3 ≤ k → k ≤ 9 → r ≠ sbody k ++ [255])

theorem sbody_inj : ∀ m n : Nat, 3 ≤ m → m ≤ 9 → 3 ≤ n → n ≤ 9 → sbody m ++ [255] = sbody n ++ [255] → m = n := by
  have key : ∀ m n : Fin 10, 3 ≤ m.val → 3 ≤ n.val → sbody m.val ++ [255] = sbody n.val ++ [255] → m.val = n.val := by decide
  intro m n h1 h2 h3 h4 h
  exact key ⟨m, by omega⟩ ⟨n, by omega⟩ h1 h3 h
theorem SKind.one {r : List UInt8} {m n : Nat} (h : SKind r m) (k : SKind r n) : m = n := by
  rcases h with ⟨a1, a2, a3⟩ | ⟨a1, a2⟩ <;> rcases k with ⟨b1, b2, b3⟩ | ⟨b1, b2⟩
  · exact sbody_inj m n a1 a2 b1 b2 (a3.symm.trans b3)
  · exact absurd a3 (b2 m a1 a2)
  · exact absurd b3 (a2 n b1 b2)
  · omega

inductive Ans where
  | data (h : List UInt8) (ps : List (List UInt8)) (c t : Bool)
  | none (n : Nat)

def ReadsAs (kk : Int) (l : List UInt8) : Ans → Prop
  | .data h ps c t => begins (Prs.restL l) = true ∧ Prs.Good kk (Prs.restL l) h ps c t [255]
  | .none n => (begins (Prs.restL l) = true ∧ n = 1 ∧ ∀ h0 ps0 c0 t0, ¬ Prs.Good kk (Prs.restL l) h0 ps0 c0 t0 [255]) ∨ (begins (Prs.restL l) = false ∧ SKind (Prs.restL l) n)

theorem ReadsAs.one {kk : Int} {l : List UInt8} {A B : Ans} (h : ReadsAs kk l A) (k : ReadsAs kk l B) : A = B := by
  cases A with
  | data h1 ps1 c1 t1 =>
    cases B with
    | data h2 ps2 c2 t2 =>
      obtain ⟨a1, a2⟩ := h
      obtain ⟨b1, b2⟩ := k
      obtain ⟨rfl, rfl, rfl, rfl, _⟩ := a2.one b2
      rfl
    | none n =>
      obtain ⟨a1, a2⟩ := h
      rcases k with ⟨_, _, k⟩ | ⟨k, _⟩
      · exact absurd a2 (k _ _ _ _)
      · rw [a1] at k; cases k
  | none m =>
    cases B with
    | data h2 ps2 c2 t2 =>
      obtain ⟨b1, b2⟩ := k
      rcases h with ⟨_, _, h⟩ | ⟨h, _⟩
      · exact absurd b2 (h _ _ _ _)
      · rw [b1] at h; cases h
    | none n =>
      rcases h with ⟨a0, rfl, _⟩ | ⟨a0, a1⟩ <;> rcases k with ⟨b0, rfl, _⟩ | ⟨b0, b1⟩
      · rfl
      · rw [a0] at b0; cases b0
      · rw [a0] at b0; cases b0
      · rw [a1.one b1]
end Go.Proofs.YtlbpjcphhocdkabGreatDoor

namespace Go.Proofs.YtlbpjcphhocdkabGreatDoor.Mod

structure Msg where
  head : List UInt8
  text : List UInt8
  clear : Bool
  deriving DecidableEq
structure Bk where
  head : List UInt8
  parts : List (List UInt8)
  clear : Bool
  last : Bool
  deriving DecidableEq
structure Cfg where
  check : Nat
  size : Nat
  parts : Nat
  queue : Nat
  first : Nat
  second : Nat
  reply : Nat
  lost : Nat
  tries : Nat
  waits : Nat
  deriving DecidableEq

/-- P7's bounds. -/
structure Cfg.Ok (c : Cfg) : Prop where
  check : c.check ≤ 1
  size : 1 ≤ c.size ∧ c.size ≤ 32
  parts : 1 ≤ c.parts ∧ c.parts ≤ 4
  queue : 1 ≤ c.queue ∧ c.queue ≤ 8
  first : 3 ≤ c.first
  second : c.first < c.second ∧ c.second ≤ 20
  reply : 3 ≤ c.reply ∧ c.reply ≤ 20
  tries : 1 ≤ c.tries ∧ c.tries ≤ 7
  waits : c.waits ≤ 7
  lost : (c.tries + 2) * c.reply + 2 ≤ c.lost ∧ c.lost ≤ 255

/-- A station. mode: Idle 0, Bidding 1, Sending 2, Receiving 3; due: the tick in which its wait is over; rest: the first tick in which it may bid again. -/
structure Stn where
  mode : Nat
  busy : Bool
  queue : List Msg
  joined : Nat
  due : Nat
  rest : Nat
  tries : Nat
  off : Nat
  free : Bool
  block : Nat
  count : Nat
  got : List Bk

structure Ev where
  kind : Nat
  station : Nat
  number : Nat
  msg : Msg
  deriving DecidableEq

/-- What a station puts on the line. -/
inductive Put where
  | nil
  | short (k : Nat)
  | blk (b : Bk)
  deriving DecidableEq

/-- P11: a list in pieces of n. -/
def chunk {α : Type} (n : Nat) : Nat → List α → List (List α)
  | 0, l => [l]
  | f + 1, l => if l.length ≤ n then [l] else l.take n :: chunk n f (l.drop n)
def pieces (c : Cfg) (m : Msg) : List (List UInt8) := chunk c.size m.text.length m.text
def groups (c : Cfg) (m : Msg) : List (List (List UInt8)) := chunk c.parts (pieces c m).length (pieces c m)
def blkAt (c : Cfg) (m : Msg) (j : Nat) : Bk :=
  { head := if j = 0 then m.head else [], parts := (groups c m).getD j [], clear := m.clear, last := decide (j + 1 = (groups c m).length) }
def nblk (c : Cfg) (m : Msg) : Nat := (groups c m).length

def noMsg : Msg := ⟨[], [], false⟩
def yesN (n : Nat) : Nat := 7 + n % 2
def patience (c : Cfg) (i mode : Nat) : Nat := if mode = 2 then c.reply else if mode = 3 then c.lost else if i = 0 then c.first else c.second

abbrev Did := Stn × Put × Option Ev

def ends (now i : Nat) (s : Stn) (kind : Nat) : Did :=
  ({ s with queue := s.queue.tail, mode := 0, rest := now + 3 }, (if s.mode = 2 then .short 5 else .nil), some ⟨kind, i, s.joined - s.queue.length + 1, noMsg⟩)
def answers (c : Cfg) (now : Nat) (s : Stn) : Did :=
  if s.busy then ({ s with got := [], count := 0, mode := 0 }, .short 9, none)
  else ({ s with got := [], count := 0, mode := 3, due := now + c.lost }, .short 7, none)
def later (c : Cfg) (now i : Nat) (s : Stn) : Did :=
  if s.off + 1 > c.waits then ends now i { s with off := s.off + 1 } 3
  else ({ s with off := s.off + 1, free := true, due := now + patience c i s.mode }, .nil, none)
def sendBlk (c : Cfg) (now : Nat) (s : Stn) : Did :=
  ({ s with due := now + c.reply }, .blk (blkAt c (s.queue.headD noMsg) s.block), none)
def tells (s : Stn) : Put := if s.busy then .short 9 else .short (yesN s.count)

/-- The kind of what is heard. -/
def kindOf : Ans → Nat
  | .data .. => 2
  | .none n => n

def joinedM (l : List Bk) : Msg :=
  { head := (l.map (·.head)).flatten, text := (l.map (·.parts.flatten)).flatten, clear := (l.getLast?.map (·.clear)).getD false }

def takes (c : Cfg) (now i : Nat) (s : Stn) (b : Bk) : Did :=
  if (joinedM (s.got ++ [b])).head.length > 8 ∨ (joinedM (s.got ++ [b])).text.length > 200 then ({ s with due := now + c.lost }, .short 6, none)
  else if b.last then ({ s with due := now + c.lost, count := s.count + 1, got := [] }, tells { s with count := s.count + 1 }, some ⟨1, i, 0, joinedM (s.got ++ [b])⟩)
  else ({ s with due := now + c.lost, count := s.count + 1, got := s.got ++ [b] }, tells { s with count := s.count + 1 }, none)

/-- P10 to P12, by its mode and what it heard; none: that is not named. -/
def idle (c : Cfg) (now : Nat) (s : Stn) (h : Ans) : Option Did := if kindOf h = 3 then some (answers c now s) else none
def bidding (c : Cfg) (now i : Nat) (s : Stn) (h : Ans) : Option Did :=
  if kindOf h = 7 then some (sendBlk c now { s with mode := 2, block := 0, tries := 1, off := 0, free := false })
  else if kindOf h = 9 then some (later c now i s)
  else if kindOf h = 3 ∧ i = 1 then some (answers c now s)
  else none
def sending (c : Cfg) (now i : Nat) (s : Stn) (h : Ans) : Option Did :=
  if kindOf h = yesN (s.block + 1) then
    if s.block + 1 = nblk c (s.queue.headD noMsg) then some (ends now i s 2)
    else some (sendBlk c now { s with block := s.block + 1, tries := 1, off := 0, free := false })
  else if kindOf h = 7 ∨ kindOf h = 8 ∨ kindOf h = 6 then
    if s.tries > c.tries then some (ends now i s 3) else some (sendBlk c now { s with tries := s.tries + 1, free := false })
  else if kindOf h = 9 then some (later c now i s)
  else none
def receiving (c : Cfg) (now i : Nat) (s : Stn) (h : Ans) : Option Did :=
  match h with
  | .data hd ps cl la => some (takes c now i s ⟨hd, ps, cl, la⟩)
  | .none n =>
    if n = 1 then some ({ s with due := now + c.lost }, .short 6, none)
    else if n = 4 then some ({ s with due := now + c.lost }, tells s, none)
    else if n = 3 then some (answers c now s)
    else if n = 5 then some ({ s with mode := 0, got := [] }, .nil, none)
    else none
def named (c : Cfg) (now i : Nat) (s : Stn) (h : Ans) : Option Did :=
  if s.mode = 1 then bidding c now i s h else if s.mode = 2 then sending c now i s h else if s.mode = 3 then receiving c now i s h else idle c now s h
def over (c : Cfg) (now i : Nat) (s : Stn) : Did :=
  if s.mode = 3 then ({ s with mode := 0, got := [] }, .nil, none)
  else if s.free = false ∧ s.tries > c.tries then ends now i s 3
  else ({ s with tries := (if s.free then s.tries else s.tries + 1), free := false, due := now + patience c i s.mode }, .short (if s.mode = 2 then 4 else 3), none)
def bids (c : Cfg) (now i : Nat) (s : Stn) : Did :=
  ({ s with mode := 1, tries := 1, off := 0, free := false, due := now + patience c i 1 }, .short 3, none)
/-- What a station does in a tick. -/
def one (c : Cfg) (now i : Nat) (s : Stn) (h : Ans) : Did :=
  match named c now i s h with
  | some d => d
  | none =>
    if s.mode ≠ 0 ∧ now = s.due then over c now i s
    else if s.mode = 0 ∧ s.queue ≠ [] ∧ s.rest ≤ now then bids c now i s
    else (s, .nil, none)

/-- The bytes of what is put. -/
def txOf (c : Cfg) : Put → List UInt8
  | .nil => []
  | .short k => [22, 22] ++ sbody k ++ [255]
  | .blk b => [22, 22] ++ Blk.body b.head b.parts b.clear b.last c.check ++ [255]

/-- What is heard of some bytes. -/
theorem reads_some (k : Int) (l : List UInt8) : ∃ A, ReadsAs k l A := by
  cases hb : begins (Prs.restL l)
  · by_cases h : ∃ n : Nat, 3 ≤ n ∧ n ≤ 9 ∧ Prs.restL l = sbody n ++ [255]
    · obtain ⟨n, h1, h2, h3⟩ := h
      exact ⟨.none n, Or.inr ⟨hb, Or.inl ⟨h1, h2, h3⟩⟩⟩
    · exact ⟨.none 0, Or.inr ⟨hb, Or.inr ⟨rfl, fun m a b e => h ⟨m, a, b, e⟩⟩⟩⟩
  · by_cases h : ∃ h0 ps0 c0 t0, Prs.Good k (Prs.restL l) h0 ps0 c0 t0 [255]
    · obtain ⟨h0, ps0, c0, t0, g⟩ := h
      exact ⟨.data h0 ps0 c0 t0, hb, g⟩
    · exact ⟨.none 1, Or.inl ⟨hb, rfl, fun h0 ps0 c0 t0 g => h ⟨h0, ps0, c0, t0, g⟩⟩⟩
noncomputable def hear (c : Cfg) (l : List UInt8) : Ans := Classical.choose (reads_some c.check l)
theorem hear_reads (c : Cfg) (l : List UInt8) : ReadsAs c.check l (hear c l) := Classical.choose_spec (reads_some c.check l)
theorem hear_is {c : Cfg} {l : List UInt8} {A : Ans} (h : ReadsAs c.check l A) : hear c l = A := (hear_reads c l).one h

structure Ln where
  c : Cfg
  now : Nat
  s0 : Stn
  s1 : Stn
  on0 : List UInt8
  on1 : List UInt8

def newS : Stn := ⟨0, false, [], 0, 0, 0, 0, 0, false, 0, 0, []⟩
def newL (c : Cfg) : Ln := ⟨c, 0, newS, newS, [], []⟩

noncomputable def hears0 (x : Ln) : Ans := if x.on0 ≠ [] then .none 0 else hear x.c x.on1
noncomputable def hears1 (x : Ln) : Ans := if x.on1 ≠ [] then .none 0 else hear x.c x.on0
noncomputable def did0 (x : Ln) : Did := one x.c (x.now + 1) 0 x.s0 (hears0 x)
noncomputable def did1 (x : Ln) : Did := one x.c (x.now + 1) 1 x.s1 (hears1 x)
noncomputable def tick (x : Ln) : Ln :=
  { x with now := x.now + 1, s0 := (did0 x).1, s1 := (did1 x).1, on0 := txOf x.c (did0 x).2.1, on1 := txOf x.c (did1 x).2.1 }
noncomputable def events (x : Ln) : List Ev := (did0 x).2.2.toList ++ (did1 x).2.2.toList

end Go.Proofs.YtlbpjcphhocdkabGreatDoor.Mod

namespace Go.Proofs.YtlbpjcphhocdkabGreatDoor.Mod

/-- What may be heard of what was put, whatever was lost or cut, or (in a block) turned. -/
def May : Put → Ans → Prop
  | .nil, h => h = .none 0
  | .short k, h => h = .none k ∨ h = .none 0
  | .blk b, h => h = .data b.head b.parts b.clear b.last ∨ h = .none 0 ∨ h = .none 1
/-- .. by the station that put q itself. -/
def Hears (q p : Put) (h : Ans) : Prop := (q ≠ .nil ∧ h = .none 0) ∨ (q = .nil ∧ May p h)

/-- The tick in which a sender gives up that hears nothing more. -/
def gu (c : Cfg) (s : Stn) : Nat := s.due + c.reply * ((if s.free then 1 else 0) + (c.tries + 1 - s.tries))

theorem gu_le (c : Cfg) (s : Stn) (h : 1 ≤ s.tries) : gu c s ≤ s.due + (c.tries + 1) * c.reply := by
  unfold gu
  have : (if s.free then 1 else 0) + (c.tries + 1 - s.tries) ≤ c.tries + 1 := by split <;> omega
  have := Nat.mul_le_mul_left c.reply this
  rw [Nat.mul_comm (c.tries + 1)]
  omega
theorem gu_ge (c : Cfg) (s : Stn) : s.due ≤ gu c s := by unfold gu; omega
theorem gu_free (c : Cfg) (s : Stn) (h : s.free = true) (T : Nat) (hT : T = s.due) : gu c { s with free := false, due := T + c.reply } = gu c s := by
  subst hT
  unfold gu
  simp only [h, if_true, Bool.false_eq_true, if_false, Nat.zero_add, Nat.mul_add, Nat.mul_one]
  omega
theorem gu_try (c : Cfg) (s : Stn) (h : s.free = false) (ht : s.tries ≤ c.tries) (T : Nat) (hT : T = s.due) : gu c { s with tries := s.tries + 1, free := false, due := T + c.reply } = gu c s := by
  subst hT
  unfold gu
  simp only [h, Bool.false_eq_true, if_false, Nat.zero_add]
  have : c.tries + 1 - s.tries = (c.tries + 1 - (s.tries + 1)) + 1 := by omega
  rw [this, Nat.mul_add, Nat.mul_one]
  omega

/-- A station by itself, behind the tick now in which it put p. -/
structure StOk (c : Cfg) (now i : Nat) (s : Stn) (p : Put) : Prop where
  mode : s.mode ≤ 3
  bid : s.mode = 1 → now < s.due ∧ s.due ≤ now + patience c i 1 ∧ 1 ≤ s.tries ∧ s.tries ≤ c.tries + 1
  snd : s.mode = 2 → now < s.due ∧ s.due ≤ now + c.reply ∧ 1 ≤ s.tries ∧ s.tries ≤ c.tries + 1
  rcv : s.mode = 3 → now < s.due ∧ s.due ≤ now + c.lost
  que : s.mode = 1 ∨ s.mode = 2 → s.queue ≠ []
  put : p = .nil ∨ (p = .short 3 ∧ s.mode = 1 ∧ s.due = now + patience c i 1) ∨ (p = .short 4 ∧ s.mode = 2 ∧ s.due = now + c.reply) ∨ (p = .short 5 ∧ s.mode = 0 ∧ s.rest = now + 3)
    ∨ ((p = .short 6 ∨ p = .short 7 ∨ p = .short 8) ∧ s.mode = 3 ∧ s.due = now + c.lost) ∨ (p = .short 9 ∧ s.mode = 3 ∧ s.due = now + c.lost) ∨ (p = .short 9 ∧ s.mode = 0) ∨ (∃ b, p = .blk b ∧ s.mode = 2 ∧ s.due = now + c.reply)

theorem patience_ge {c : Cfg} (h : c.Ok) (i m : Nat) : 3 ≤ patience c i m := by
  have := h.first; have := h.second; have := h.reply; have := h.lost
  unfold patience
  have : 2 ≤ (c.tries + 2) * c.reply := Nat.le_trans (show 2 ≤ 2 * 3 by decide) (Nat.mul_le_mul (by omega) (by omega))
  split
  · omega
  · split
    · omega
    · split <;> omega

theorem yes_or (n : Nat) : yesN n = 7 ∨ yesN n = 8 := by unfold yesN; omega

/-- What each step of a station leaves. -/
theorem ends_ok {c : Cfg} {now i : Nat} {s : Stn} {k : Nat} : StOk c now i (ends now i s k).1 (ends now i s k).2.1 ∧ (ends now i s k).1.mode = 0 := by
  refine ⟨⟨by simp [ends], by simp [ends], by simp [ends], by simp [ends], by simp [ends], ?_⟩, rfl⟩
  unfold ends
  by_cases h : s.mode = 2
  · simp only [h, if_true]
    right; right; right; left
    simp
  · simp only [h, if_false]
    left; trivial
theorem answers_ok {c : Cfg} {now i : Nat} {s : Stn} (hc : c.Ok) : StOk c now i (answers c now s).1 (answers c now s).2.1 ∧ ((answers c now s).1.mode = 0 ∨ (answers c now s).1.mode = 3) := by
  have hl := patience_ge hc 0 3
  have : patience c 0 3 = c.lost := rfl
  rw [this] at hl
  unfold answers
  by_cases h : s.busy = true
  · rw [if_pos h]
    refine ⟨⟨by simp, by simp, by simp, by simp, by simp, ?_⟩, Or.inl rfl⟩
    right; right; right; right; right; right; left
    simp
  · rw [if_neg h]
    refine ⟨⟨by simp, by simp, by simp, ?_, by simp, ?_⟩, Or.inr rfl⟩
    · simp; omega
    · right; right; right; right; left
      simp
theorem sendBlk_ok {c : Cfg} {now i : Nat} {s : Stn} (hc : c.Ok) (hm : s.mode = 2) (ht : 1 ≤ s.tries ∧ s.tries ≤ c.tries + 1) (hq : s.queue ≠ []) : StOk c now i (sendBlk c now s).1 (sendBlk c now s).2.1 := by
  have := hc.reply
  unfold sendBlk
  refine ⟨by simp [hm], by simp [hm], ?_, by simp [hm], fun _ => hq, ?_⟩
  · intro _; simp; omega
  · right; right; right; right; right; right; right
    exact ⟨_, rfl, hm, rfl⟩

theorem later_ok {c : Cfg} {now i : Nat} {s : Stn} (hc : c.Ok) (hm : s.mode = 1 ∨ s.mode = 2) (ht : 1 ≤ s.tries ∧ s.tries ≤ c.tries + 1) (hq : s.queue ≠ []) : StOk c now i (later c now i s).1 (later c now i s).2.1 ∧ ((later c now i s).1.mode = 0 ∨ (later c now i s).1.mode = s.mode ∧ (later c now i s).2.1 = .nil) := by
  have hp := patience_ge hc i s.mode
  unfold later
  split
  · exact ⟨ends_ok.1, Or.inl rfl⟩
  · refine ⟨⟨?_, ?_, ?_, ?_, fun _ => hq, Or.inl rfl⟩, Or.inr ⟨rfl, rfl⟩⟩
    · rcases hm with h | h <;> simp [h]
    · intro h1
      simp only at h1 ⊢
      rw [h1] at hp ⊢
      omega
    · intro h1
      simp only at h1 ⊢
      rw [h1] at hp ⊢
      have : patience c i 2 = c.reply := rfl
      rw [this] at hp ⊢
      omega
    · intro h1
      simp only at h1
      omega
theorem over_ok {c : Cfg} {now i : Nat} {s : Stn} (hc : c.Ok) (hm : s.mode = 1 ∨ s.mode = 2 ∨ s.mode = 3) (ht : s.mode ≠ 3 → 1 ≤ s.tries ∧ s.tries ≤ c.tries + 1) (hq : s.mode ≠ 3 → s.queue ≠ []) : StOk c now i (over c now i s).1 (over c now i s).2.1 ∧ ((over c now i s).1.mode = 0 ∨ (over c now i s).1.mode = s.mode ∧ s.mode ≠ 3) := by
  have hp := patience_ge hc i s.mode
  unfold over
  by_cases h3 : s.mode = 3
  · rw [if_pos h3]
    exact ⟨⟨by simp, by simp, by simp, by simp, by simp, Or.inl rfl⟩, Or.inl rfl⟩
  · rw [if_neg h3]
    have ht := ht h3
    have hq := hq h3
    split
    · exact ⟨ends_ok.1, Or.inl rfl⟩
    · rename_i hx
      have hx' : s.free = true ∨ s.tries ≤ c.tries := by
        cases hf : s.free
        · right
          rcases Nat.lt_or_ge c.tries s.tries with h | h
          · exact absurd ⟨hf, h⟩ hx
          · exact h
        · exact Or.inl rfl
      have htt : 1 ≤ (if s.free = true then s.tries else s.tries + 1) ∧ (if s.free = true then s.tries else s.tries + 1) ≤ c.tries + 1 := by
        split
        · exact ht
        · rename_i hf
          rcases hx' with h | h
          · exact absurd h hf
          · omega
      have hm' : s.mode = 1 ∨ s.mode = 2 := by omega
      refine ⟨⟨?_, ?_, ?_, ?_, fun _ => hq, ?_⟩, Or.inr ⟨rfl, h3⟩⟩
      · rcases hm' with h | h <;> simp [h]
      · intro h1
        simp only at h1 ⊢
        rw [h1] at hp ⊢
        omega
      · intro h1
        simp only at h1 ⊢
        rw [h1] at hp ⊢
        have : patience c i 2 = c.reply := rfl
        rw [this] at hp ⊢
        omega
      · intro h1
        simp only at h1
        omega
      · rcases hm' with h | h
        · right; left
          simp only [h]
          simp
        · right; right; left
          simp only [h]
          simp
          rfl
theorem bids_ok {c : Cfg} {now i : Nat} {s : Stn} (hc : c.Ok) (hq : s.queue ≠ []) : StOk c now i (bids c now i s).1 (bids c now i s).2.1 := by
  have hp := patience_ge hc i 1
  unfold bids
  refine ⟨by simp, ?_, by simp, by simp, fun _ => hq, ?_⟩
  · intro _; simp; omega
  · right; left; simp
theorem tells_short (s : Stn) : tells s = .short 9 ∨ tells s = .short 7 ∨ tells s = .short 8 := by
  unfold tells
  split
  · exact Or.inl rfl
  · rcases yes_or s.count with h | h <;> simp [h]
theorem rcv_ok {c : Cfg} {now i : Nat} {s : Stn} {p : Put} (hc : c.Ok) (hm : s.mode = 3) (hd : s.due = now + c.lost) (hp : p = .short 6 ∨ p = .short 7 ∨ p = .short 8 ∨ p = .short 9) : StOk c now i s p := by
  have hl := patience_ge hc 0 3
  have : patience c 0 3 = c.lost := rfl
  rw [this] at hl
  refine ⟨by omega, by omega, by omega, fun _ => by omega, by omega, ?_⟩
  rcases hp with h | h | h | h
  · right; right; right; right; left; exact ⟨Or.inl h, hm, hd⟩
  · right; right; right; right; left; exact ⟨Or.inr (Or.inl h), hm, hd⟩
  · right; right; right; right; left; exact ⟨Or.inr (Or.inr h), hm, hd⟩
  · right; right; right; right; right; left; exact ⟨h, hm, hd⟩
theorem takes_ok {c : Cfg} {now i : Nat} {s : Stn} {b : Bk} (hc : c.Ok) (hm : s.mode = 3) : StOk c now i (takes c now i s b).1 (takes c now i s b).2.1 ∧ (takes c now i s b).1.mode = 3 := by
  unfold takes
  split
  · exact ⟨rcv_ok hc hm rfl (Or.inl rfl), hm⟩
  · split
    · refine ⟨rcv_ok hc hm rfl ?_, hm⟩
      rcases tells_short { s with count := s.count + 1 } with h | h | h <;> simp [h]
    · refine ⟨rcv_ok hc hm rfl ?_, hm⟩
      rcases tells_short { s with count := s.count + 1 } with h | h | h <;> simp [h]

theorem stay_ok {c : Cfg} {now i : Nat} {s : Stn} {p : Put} (hs : StOk c now i s p) (hd : s.mode ≠ 0 → now + 1 ≠ s.due) : StOk c (now + 1) i s .nil := by
  refine ⟨hs.mode, fun h => ?_, fun h => ?_, fun h => ?_, hs.que, Or.inl rfl⟩
  · have := hs.bid h; have := hd (by omega); omega
  · have := hs.snd h; have := hd (by omega); omega
  · have := hs.rcv h; have := hd (by omega); omega

/-- A tick leaves each station so. -/
theorem one_ok {c : Cfg} {now i : Nat} {s : Stn} {p : Put} {h : Ans} (hc : c.Ok) (hs : StOk c now i s p) : StOk c (now + 1) i (one c (now + 1) i s h).1 (one c (now + 1) i s h).2.1 := by
  unfold one named
  by_cases h1 : s.mode = 1
  · have hb := hs.bid h1
    have hq := hs.que (Or.inl h1)
    rw [if_pos h1]
    unfold bidding
    split
    · rename_i d hd
      split at hd
      · cases hd
        exact sendBlk_ok hc rfl (by simp) hq
      · split at hd
        · cases hd
          exact (later_ok hc (Or.inl h1) ⟨hb.2.2.1, hb.2.2.2⟩ hq).1
        · split at hd
          · cases hd
            exact (answers_ok hc).1
          · cases hd
    · split
      · exact (over_ok hc (Or.inl h1) (fun _ => ⟨hb.2.2.1, hb.2.2.2⟩) (fun _ => hq)).1
      · rename_i hx
        split
        · omega
        · exact stay_ok hs (fun h0 e => hx ⟨h0, e⟩)
  · rw [if_neg h1]
    by_cases h2 : s.mode = 2
    · have hb := hs.snd h2
      have hq := hs.que (Or.inr h2)
      rw [if_pos h2]
      unfold sending
      split
      · rename_i d hd
        split at hd
        · split at hd
          · cases hd; exact ends_ok.1
          · cases hd; exact sendBlk_ok hc h2 (by simp) hq
        · split at hd
          · split at hd
            · cases hd; exact ends_ok.1
            · cases hd; exact sendBlk_ok hc h2 (by simp; omega) hq
          · split at hd
            · cases hd
              exact (later_ok hc (Or.inr h2) ⟨hb.2.2.1, hb.2.2.2⟩ hq).1
            · cases hd
      · split
        · exact (over_ok hc (Or.inr (Or.inl h2)) (fun _ => ⟨hb.2.2.1, hb.2.2.2⟩) (fun _ => hq)).1
        · rename_i hx
          split
          · omega
          · exact stay_ok hs (fun h0 e => hx ⟨h0, e⟩)
    · rw [if_neg h2]
      by_cases h3 : s.mode = 3
      · have hb := hs.rcv h3
        rw [if_pos h3]
        unfold receiving
        split
        · rename_i d hd
          cases h with
          | data hd0 ps cl la => cases hd; exact (takes_ok hc h3).1
          | none n =>
            simp only at hd
            split at hd
            · cases hd; exact rcv_ok hc h3 rfl (Or.inl rfl)
            · split at hd
              · cases hd
                refine rcv_ok hc h3 rfl ?_
                rcases tells_short s with h | h | h <;> simp [h]
              · split at hd
                · cases hd; exact (answers_ok hc).1
                · split at hd
                  · cases hd
                    exact ⟨by simp, by simp, by simp, by simp, by simp, Or.inl rfl⟩
                  · cases hd
        · split
          · exact (over_ok hc (Or.inr (Or.inr h3)) (fun h => absurd h3 h) (fun h => absurd h3 h)).1
          · rename_i hx
            split
            · omega
            · exact stay_ok hs (fun h0 e => hx ⟨h0, e⟩)
      · rw [if_neg h3]
        have h0 : s.mode = 0 := by have := hs.mode; omega
        unfold idle
        split
        · rename_i d hd
          split at hd
          · cases hd; exact (answers_ok hc).1
          · cases hd
        · split
          · omega
          · split
            · rename_i hx
              exact bids_ok hc hx.2.1
            · exact stay_ok hs (fun h => absurd h0 h)

end Go.Proofs.YtlbpjcphhocdkabGreatDoor.Mod

namespace Go.Proofs.YtlbpjcphhocdkabGreatDoor.Mod

/-- Where nothing is heard and no wait is over a station that waits stays. -/
theorem one_still {c : Cfg} {T i : Nat} {s : Stn} (hm : s.mode = 1 ∨ s.mode = 2 ∨ s.mode = 3) (hd : T ≠ s.due) : one c T i s (.none 0) = (s, .nil, none) := by
  have y := yes_or (s.block + 1)
  have hn : named c T i s (.none 0) = none := by
    unfold named
    rcases hm with h | h | h
    · simp [h, bidding, kindOf]
    · rw [if_neg (by omega), if_pos h]
      unfold sending
      rw [if_neg (show ¬ kindOf (.none 0) = _ by show ¬ (0 = _); omega), if_neg (show ¬ (kindOf (.none 0) = 7 ∨ kindOf (.none 0) = 8 ∨ kindOf (.none 0) = 6) by decide), if_neg (show ¬ kindOf (.none 0) = 9 by decide)]
    · simp [h, receiving]
  unfold one
  rw [hn]
  simp only
  rw [if_neg (fun h => hd h.2), if_neg (by omega)]

/-- What a station that puts q hears, where q is something. -/
theorem own_silence {q p : Put} {h : Ans} (hh : Hears q p h) (hq : q ≠ .nil) : h = .none 0 := by
  rcases hh with ⟨_, h⟩ | ⟨h, _⟩
  · exact h
  · exact absurd h hq

theorem heard_some {q p : Put} {h : Ans} (hh : Hears q p h) (hk : kindOf h ≠ 0) : q = .nil ∧ p ≠ .nil := by
  rcases hh with ⟨_, rfl⟩ | ⟨rfl, hm⟩
  · exact absurd rfl hk
  · refine ⟨rfl, fun hp => ?_⟩
    subst hp
    cases hm
    exact hk rfl

/-- What was put, by the kind that is heard. -/
theorem heard_short {q p : Put} {h : Ans} {k : Nat} (hh : Hears q p h) (hk : kindOf h = k) (h0 : 3 ≤ k) : p = .short k := by
  have := heard_some hh (by omega)
  rcases hh with ⟨_, rfl⟩ | ⟨_, hm⟩
  · simp [kindOf] at hk; omega
  · cases p with
    | nil => exact absurd rfl this.2
    | short j =>
      rcases hm with rfl | rfl
      · simp only [kindOf] at hk; rw [hk]
      · simp only [kindOf] at hk; omega
    | blk b =>
      rcases hm with rfl | rfl | rfl
      · simp only [kindOf] at hk; omega
      · simp only [kindOf] at hk; omega
      · simp only [kindOf] at hk; omega

/-- Whoever puts an answer is Receiving, and its wait began just now. -/
theorem put_answer {c : Cfg} {now i : Nat} {s : Stn} {k : Nat} (hs : StOk c now i s (.short k)) (hk : k = 6 ∨ k = 7 ∨ k = 8) : s.mode = 3 ∧ s.due = now + c.lost := by
  rcases hs.put with h | h | h | h | h | h | h | ⟨b, h, _⟩
  · cases h
  · have := h.1; simp at this; omega
  · have := h.1; simp at this; omega
  · have := h.1; simp at this; omega
  · exact ⟨h.2.1, h.2.2⟩
  · have := h.1; simp at this; omega
  · have := h.1; simp at this; omega
  · cases h

/-- Behind a put the station does not speak by itself, unless it was Idle and put somebody off. -/
theorem quiet_next {c : Cfg} {now i : Nat} {s : Stn} {q : Put} (hc : c.Ok) (hs : StOk c now i s q) (hq : q ≠ .nil) :
    one c (now + 1) i s (.none 0) = (s, .nil, none) ∨ (q = .short 9 ∧ s.mode = 0 ∧ ((one c (now + 1) i s (.none 0)).2.1 = .nil ∨ (one c (now + 1) i s (.none 0)).2.1 = .short 3)) := by
  have p1 := patience_ge hc i 1
  have p2 := patience_ge hc i 2
  have p3 := patience_ge hc i 3
  have e2 : patience c i 2 = c.reply := rfl
  have e3 : patience c i 3 = c.lost := rfl
  rw [e2] at p2
  rw [e3] at p3
  rcases hs.put with h | h | h | h | h | h | h | ⟨b, h⟩
  · exact absurd h hq
  · left; exact one_still (Or.inl h.2.1) (by omega)
  · left; exact one_still (Or.inr (Or.inl h.2.1)) (by omega)
  · left
    unfold one named
    rw [if_neg (by omega), if_neg (by omega), if_neg (by omega)]
    unfold idle
    rw [if_neg (show ¬ kindOf (.none 0) = 3 by decide)]
    simp only
    rw [if_neg (by omega), if_neg (by omega)]
  · left; exact one_still (Or.inr (Or.inr h.2.1)) (by omega)
  · left; exact one_still (Or.inr (Or.inr h.2.1)) (by omega)
  · right
    refine ⟨h.1, h.2, ?_⟩
    unfold one named
    rw [if_neg (by omega), if_neg (by omega), if_neg (by omega)]
    unfold idle
    rw [if_neg (show ¬ kindOf (.none 0) = 3 by decide)]
    simp only
    rw [if_neg (by omega)]
    split
    · right; rfl
    · left; rfl
  · left; exact one_still (Or.inr (Or.inl h.2.1)) (by omega)

theorem gu_blk {c : Cfg} {T : Nat} {s : Stn} (h : 1 ≤ s.tries) (hd : s.due = T + c.reply) : gu c s ≤ T + (c.tries + 2) * c.reply := by
  have := gu_le c s h
  have e : (c.tries + 2) * c.reply = (c.tries + 1) * c.reply + c.reply := by rw [← Nat.succ_mul]
  omega

/-- A station that is Sending behind a tick: it was Bidding and heard Yes0; or it was Sending, and heard an answer, or goes on as before. -/
theorem snd_cases {c : Cfg} {now i : Nat} {s : Stn} {p : Put} {h : Ans} (hs : StOk c now i s p) (hm : (one c (now + 1) i s h).1.mode = 2) :
    (s.mode = 1 ∧ kindOf h = 7 ∧ (one c (now + 1) i s h).1.due = now + 1 + c.reply ∧ 1 ≤ (one c (now + 1) i s h).1.tries)
    ∨ (s.mode = 2 ∧ (kindOf h = 6 ∨ kindOf h = 7 ∨ kindOf h = 8 ∨ kindOf h = 9) ∧ (one c (now + 1) i s h).1.due = now + 1 + c.reply ∧ 1 ≤ (one c (now + 1) i s h).1.tries)
    ∨ (s.mode = 2 ∧ gu c (one c (now + 1) i s h).1 = gu c s) := by
  unfold one named at hm ⊢
  by_cases h1 : s.mode = 1
  · rw [if_pos h1] at hm ⊢
    unfold bidding at hm ⊢
    by_cases k7 : kindOf h = 7
    · left
      rw [if_pos k7] at hm ⊢
      exact ⟨h1, k7, rfl, Nat.le_refl _⟩
    · rw [if_neg k7] at hm ⊢
      by_cases k9 : kindOf h = 9
      · rw [if_pos k9] at hm
        simp only [later] at hm
        split at hm
        · simp [ends] at hm
        · simp [h1] at hm
      · rw [if_neg k9] at hm
        by_cases k3 : kindOf h = 3 ∧ i = 1
        · rw [if_pos k3] at hm
          simp only [answers] at hm
          split at hm <;> simp at hm
        · rw [if_neg k3] at hm
          simp only at hm
          split at hm
          · simp only [over] at hm
            rw [if_neg (by omega)] at hm
            split at hm
            · simp [ends] at hm
            · simp [h1] at hm
          · rw [if_neg (by omega)] at hm
            simp [h1] at hm
  · rw [if_neg h1] at hm ⊢
    by_cases h2 : s.mode = 2
    · have hb := hs.snd h2
      right
      rw [if_pos h2] at hm ⊢
      unfold sending at hm ⊢
      have y := yes_or (s.block + 1)
      by_cases ky : kindOf h = yesN (s.block + 1)
      · rw [if_pos ky] at hm ⊢
        by_cases hnb : s.block + 1 = nblk c (s.queue.headD noMsg)
        · rw [if_pos hnb] at hm
          simp [ends] at hm
        · rw [if_neg hnb]
          left
          exact ⟨h2, by omega, rfl, Nat.le_refl _⟩
      · rw [if_neg ky] at hm ⊢
        by_cases ka : kindOf h = 7 ∨ kindOf h = 8 ∨ kindOf h = 6
        · rw [if_pos ka] at hm ⊢
          by_cases hnb : s.tries > c.tries
          · rw [if_pos hnb] at hm
            simp [ends] at hm
          · rw [if_neg hnb]
            left
            exact ⟨h2, by omega, rfl, by simp [sendBlk]⟩
        · rw [if_neg ka] at hm ⊢
          by_cases k9 : kindOf h = 9
          · rw [if_pos k9] at hm ⊢
            simp only [later] at hm ⊢
            split at hm
            · simp [ends] at hm
            · rename_i hnb
              rw [if_neg hnb]
              left
              exact ⟨h2, by omega, by simp [patience, h2], hb.2.2.1⟩
          · rw [if_neg k9] at hm ⊢
            right
            refine ⟨h2, ?_⟩
            simp only at hm ⊢
            split at hm
            · rename_i hx
              rw [if_pos hx]
              simp only [over] at hm ⊢
              rw [if_neg (by omega)] at hm ⊢
              split at hm
              · simp [ends] at hm
              · rename_i hy
                rw [if_neg hy]
                have ep : patience c i s.mode = c.reply := by rw [h2]; rfl
                rw [ep]
                cases hf : s.free
                · have ht : s.tries ≤ c.tries := by
                    rcases Nat.lt_or_ge c.tries s.tries with h | h
                    · exact absurd ⟨hf, h⟩ hy
                    · exact h
                  have := gu_try c s hf ht (now + 1) hx.2
                  simpa using this
                · have := gu_free c s hf (now + 1) hx.2
                  simpa using this
            · rename_i hx
              rw [if_neg hx, if_neg (by omega)]
    · exfalso
      rw [if_neg h2] at hm
      by_cases h3 : s.mode = 3
      · rw [if_pos h3] at hm
        unfold receiving at hm
        cases h with
        | data a b d e =>
          simp only [takes] at hm
          split at hm
          · simp [h3] at hm
          · split at hm <;> simp [h3] at hm
        | none n =>
          simp only at hm
          by_cases n1 : n = 1
          · simp [n1, h3] at hm
          · rw [if_neg n1] at hm
            by_cases n4 : n = 4
            · simp [n4, h3] at hm
            · rw [if_neg n4] at hm
              by_cases n3 : n = 3
              · rw [if_pos n3] at hm
                simp only [answers] at hm
                split at hm <;> simp at hm
              · rw [if_neg n3] at hm
                by_cases n5 : n = 5
                · simp [n5] at hm
                · rw [if_neg n5] at hm
                  simp only at hm
                  split at hm
                  · simp [over, h3] at hm
                  · rw [if_neg (by omega)] at hm
                    simp [h3] at hm
      · rw [if_neg h3] at hm
        have h0 : s.mode = 0 := by have := hs.mode; omega
        unfold idle at hm
        by_cases k3 : kindOf h = 3
        · rw [if_pos k3] at hm
          simp only [answers] at hm
          split at hm <;> simp at hm
        · rw [if_neg k3] at hm
          simp only at hm
          rw [if_neg (by omega)] at hm
          split at hm
          · simp [bids] at hm
          · simp [h0] at hm
end Go.Proofs.YtlbpjcphhocdkabGreatDoor.Mod

namespace Go.Proofs.YtlbpjcphhocdkabGreatDoor.Mod

theorem rcv_keep {c : Cfg} {now j : Nat} {t : Stn} {q : Put} {g : Ans} (ht : StOk c now j t q) (hm : t.mode = 3) (hg : kindOf g = 0 ∨ kindOf g = 1 ∨ kindOf g = 2 ∨ kindOf g = 4) (hd : now + 1 ≠ t.due) :
    (one c (now + 1) j t g).1.mode = 3 ∧ t.due ≤ (one c (now + 1) j t g).1.due := by
  have hb := ht.rcv hm
  unfold one named
  rw [if_neg (by omega), if_neg (by omega), if_pos hm]
  unfold receiving
  cases g with
  | data a b d e =>
    simp only [takes]
    split
    · exact ⟨hm, by show t.due ≤ now + 1 + c.lost; omega⟩
    · split
      · exact ⟨hm, by show t.due ≤ now + 1 + c.lost; omega⟩
      · exact ⟨hm, by show t.due ≤ now + 1 + c.lost; omega⟩
  | none n =>
    have hn : n = 0 ∨ n = 1 ∨ n = 2 ∨ n = 4 := hg
    simp only
    by_cases n1 : n = 1
    · rw [if_pos n1]
      exact ⟨hm, by show t.due ≤ now + 1 + c.lost; omega⟩
    · rw [if_neg n1]
      by_cases n4 : n = 4
      · rw [if_pos n4]
        exact ⟨hm, by show t.due ≤ now + 1 + c.lost; omega⟩
      · rw [if_neg n4, if_neg (by omega), if_neg (by omega)]
        simp only
        rw [if_neg (fun h => hd h.2), if_neg (by omega)]
        exact ⟨hm, Nat.le_refl _⟩

/-- What a station that is Sending has put. -/
theorem put_snd {c : Cfg} {now i : Nat} {s : Stn} {p : Put} (hs : StOk c now i s p) (hm : s.mode = 2) : p = .nil ∨ p = .short 4 ∨ ∃ b, p = .blk b := by
  rcases hs.put with h | h | h | h | h | h | h | ⟨b, h⟩
  · exact Or.inl h
  · omega
  · exact Or.inr (Or.inl h.1)
  · omega
  · omega
  · omega
  · omega
  · exact Or.inr (Or.inr ⟨b, h.1⟩)
theorem heard_of_snd {c : Cfg} {now i : Nat} {s : Stn} {p q : Put} {g : Ans} (hs : StOk c now i s p) (hm : s.mode = 2) (hh : Hears q p g) : kindOf g = 0 ∨ kindOf g = 1 ∨ kindOf g = 2 ∨ kindOf g = 4 := by
  rcases hh with ⟨_, rfl⟩ | ⟨_, hy⟩
  · exact Or.inl rfl
  · rcases put_snd hs hm with rfl | rfl | ⟨b, rfl⟩
    · cases hy; exact Or.inl rfl
    · rcases hy with rfl | rfl
      · exact Or.inr (Or.inr (Or.inr rfl))
      · exact Or.inl rfl
    · rcases hy with rfl | rfl | rfl
      · exact Or.inr (Or.inr (Or.inl rfl))
      · exact Or.inl rfl
      · exact Or.inr (Or.inl rfl)

/-- Who is Sending has the other Receiving, for longer. -/
def Kept (c : Cfg) (s t : Stn) : Prop := s.mode = 2 → t.mode = 3 ∧ gu c s < t.due

theorem kept_step {c : Cfg} {now i j : Nat} {s t : Stn} {p q : Put} {h g : Ans} (hc : c.Ok) (hs : StOk c now i s p) (ht : StOk c now j t q) (hk : Kept c s t) (hh : Hears p q h) (hg : Hears q p g) :
    Kept c (one c (now + 1) i s h).1 (one c (now + 1) j t g).1 := by
  intro hm
  have hl := hc.lost
  have p3 := patience_ge hc 0 3
  have e3 : patience c 0 3 = c.lost := rfl
  rw [e3] at p3
  have ans : ∀ k, q = .short k → t.mode = 3 → t.due = now + c.lost → (one c (now + 1) i s h).1.due = now + 1 + c.reply → 1 ≤ (one c (now + 1) i s h).1.tries → (one c (now + 1) j t g).1.mode = 3 ∧ gu c (one c (now + 1) i s h).1 < (one c (now + 1) j t g).1.due := by
    intro k hq m3 d3 hd h1
    have g0 : g = .none 0 := own_silence hg (by rw [hq]; simp)
    have e : one c (now + 1) j t g = (t, .nil, none) := by rw [g0]; exact one_still (Or.inr (Or.inr m3)) (by omega)
    rw [e]
    have := gu_blk h1 hd
    exact ⟨m3, by show gu c _ < t.due; omega⟩
  rcases snd_cases hs hm with ⟨m1, k7, hd, h1⟩ | ⟨m2, kk, hd, h1⟩ | ⟨m2, he⟩
  · have hq := heard_short hh k7 (by omega)
    subst hq
    have a := put_answer ht (Or.inr (Or.inl rfl))
    exact ans 7 rfl a.1 a.2 hd h1
  · obtain ⟨m3, hgu⟩ := hk m2
    obtain ⟨k, hkk, hkr⟩ : ∃ k, kindOf h = k ∧ (k = 6 ∨ k = 7 ∨ k = 8 ∨ k = 9) := ⟨_, rfl, kk⟩
    have hq := heard_short hh hkk (by omega)
    subst hq
    have d3 : t.due = now + c.lost := by
      rcases hkr with r | r | r | r
      · subst r; exact (put_answer ht (by omega)).2
      · subst r; exact (put_answer ht (by omega)).2
      · subst r; exact (put_answer ht (by omega)).2
      · subst r
        rcases ht.put with h | h | h | h | h | h | h | ⟨b, h, _⟩
        · cases h
        · have := h.1; simp at this
        · have := h.1; simp at this
        · have := h.1; simp at this
        · have := h.1; simp at this
        · exact h.2.2
        · omega
        · cases h
    exact ans k rfl m3 d3 hd h1
  · obtain ⟨m3, hgu⟩ := hk m2
    have hb := hs.snd m2
    have g1 := gu_ge c s
    have r := rcv_keep ht m3 (heard_of_snd hs m2 hg) (by omega)
    refine ⟨r.1, ?_⟩
    rw [he]
    omega

/-- What a station puts: if nothing named was heard, it is Bidding or Sending. -/
theorem put_cases {c : Cfg} {now i : Nat} {s : Stn} {p : Put} {h : Ans} (hs : StOk c now i s p) (hp : (one c (now + 1) i s h).2.1 ≠ .nil) :
    (kindOf h ≠ 0 ∧ (kindOf h = 9 → s.mode = 2)) ∨ ((one c (now + 1) i s h).2.1 = .short 3 ∧ s.mode ≠ 3) ∨ s.mode = 2 := by
  unfold one named at hp ⊢
  by_cases h1 : s.mode = 1
  · rw [if_pos h1] at hp ⊢
    unfold bidding at hp ⊢
    by_cases k7 : kindOf h = 7
    · left; exact ⟨by omega, by omega⟩
    · rw [if_neg k7] at hp ⊢
      by_cases k9 : kindOf h = 9
      · exfalso
        rw [if_pos k9] at hp
        simp only [later] at hp
        split at hp
        · simp [ends, h1] at hp
        · simp at hp
      · rw [if_neg k9] at hp ⊢
        by_cases k3 : kindOf h = 3 ∧ i = 1
        · left; exact ⟨by omega, by omega⟩
        · rw [if_neg k3] at hp ⊢
          simp only at hp ⊢
          by_cases hx : s.mode ≠ 0 ∧ now + 1 = s.due
          · rw [if_pos hx] at hp ⊢
            simp only [over] at hp ⊢
            rw [if_neg (by omega)] at hp ⊢
            split at hp
            · simp [ends, h1] at hp
            · rename_i hy
              rw [if_neg hy]
              right; left
              exact ⟨by simp [h1], by omega⟩
          · rw [if_neg hx, if_neg (by omega)] at hp
            simp at hp
  · rw [if_neg h1] at hp ⊢
    by_cases h2 : s.mode = 2
    · exact Or.inr (Or.inr h2)
    · rw [if_neg h2] at hp ⊢
      by_cases h3 : s.mode = 3
      · left
        rw [if_pos h3] at hp
        unfold receiving at hp
        cases h with
        | data a b d e => exact ⟨by simp [kindOf], by simp [kindOf]⟩
        | none n =>
          simp only at hp
          by_cases n1 : n = 1
          · exact ⟨by simp [kindOf, n1], by simp [kindOf, n1]⟩
          · rw [if_neg n1] at hp
            by_cases n4 : n = 4
            · exact ⟨by simp [kindOf, n4], by simp [kindOf, n4]⟩
            · rw [if_neg n4] at hp
              by_cases n3 : n = 3
              · exact ⟨by simp [kindOf, n3], by simp [kindOf, n3]⟩
              · rw [if_neg n3] at hp
                by_cases n5 : n = 5
                · exact ⟨by simp [kindOf, n5], by simp [kindOf, n5]⟩
                · exfalso
                  rw [if_neg n5] at hp
                  simp only at hp
                  split at hp
                  · simp [over, h3] at hp
                  · rw [if_neg (by omega)] at hp
                    simp at hp
      · rw [if_neg h3] at hp ⊢
        have h0 : s.mode = 0 := by have := hs.mode; omega
        unfold idle at hp ⊢
        by_cases k3 : kindOf h = 3
        · left; exact ⟨by omega, by omega⟩
        · rw [if_neg k3] at hp ⊢
          simp only at hp ⊢
          rw [if_neg (by omega)] at hp ⊢
          split at hp
          · rename_i hx
            rw [if_pos hx]
            right; left
            exact ⟨rfl, h3⟩
          · simp at hp

/-- One speaks. -/
structure Tok (c : Cfg) (now : Nat) (s0 s1 : Stn) (p0 p1 : Put) : Prop where
  a : StOk c now 0 s0 p0
  b : StOk c now 1 s1 p1
  k0 : Kept c s0 s1
  k1 : Kept c s1 s0
  t : p0 ≠ .nil → p1 ≠ .nil → p0 = .short 3 ∧ p1 = .short 3

theorem both_bid {c : Cfg} {now i j : Nat} {s t : Stn} {p q : Put} {h g : Ans} (hc : c.Ok) (hs : StOk c now i s p) (ht : StOk c now j t q) (k1 : Kept c s t) (k2 : Kept c t s) (hh : Hears p q h) (hg : Hears q p g)
    (hp : (one c (now + 1) i s h).2.1 ≠ .nil) (hq : (one c (now + 1) j t g).2.1 ≠ .nil) : (one c (now + 1) i s h).2.1 = .short 3 := by
  -- a put in answer to what is heard: the other one is silent then
  have key : ∀ {i j : Nat} {s t : Stn} {p q : Put} {h g : Ans}, StOk c now i s p → StOk c now j t q → Kept c s t → Hears p q h → Hears q p g → (one c (now + 1) j t g).2.1 ≠ .nil → kindOf h ≠ 0 → kindOf h = 9 ∧ t.mode = 0 := by
    intro i j s t p q h g hs ht k1 hh hg hq hk
    obtain ⟨hpn, hqn⟩ := heard_some hh hk
    have g0 := own_silence hg hqn
    subst g0
    rcases quiet_next hc ht hqn with e | ⟨e1, e2, _⟩
    · rw [e] at hq; exact absurd rfl hq
    · refine ⟨?_, e2⟩
      subst e1
      rcases hh with ⟨hn, _⟩ | ⟨_, hm⟩
      · exact absurd hpn hn
      · rcases hm with rfl | rfl
        · rfl
        · exact absurd rfl hk
  rcases put_cases hs hp with ⟨hk, h9⟩ | ⟨e, _⟩ | m2
  · obtain ⟨k9, t0⟩ := key hs ht k1 hh hg hq hk
    have := (k1 (h9 k9)).1
    omega
  · exact e
  · have t3 := (k1 m2).1
    rcases put_cases ht hq with ⟨hk, h9⟩ | ⟨_, n3⟩ | m2'
    · obtain ⟨k9, s0⟩ := key ht hs k2 hg hh hp hk
      omega
    · exact absurd t3 n3
    · omega

theorem tok_step {c : Cfg} {now : Nat} {s0 s1 : Stn} {p0 p1 : Put} {h0 h1 : Ans} (hc : c.Ok) (h : Tok c now s0 s1 p0 p1) (a0 : Hears p0 p1 h0) (a1 : Hears p1 p0 h1) :
    Tok c (now + 1) (one c (now + 1) 0 s0 h0).1 (one c (now + 1) 1 s1 h1).1 (one c (now + 1) 0 s0 h0).2.1 (one c (now + 1) 1 s1 h1).2.1 :=
  ⟨one_ok hc h.a, one_ok hc h.b, kept_step hc h.a h.b h.k0 a0 a1, kept_step hc h.b h.a h.k1 a1 a0, fun q0 q1 => ⟨both_bid hc h.a h.b h.k0 h.k1 a0 a1 q0 q1, both_bid hc h.b h.a h.k1 h.k0 a1 a0 q1 q0⟩⟩

theorem tok_new (c : Cfg) : Tok c 0 newS newS .nil .nil := by
  have ok : ∀ i, StOk c 0 i newS .nil := fun i => ⟨by simp [newS], by simp [newS], by simp [newS], by simp [newS], by simp [newS], Or.inl rfl⟩
  exact ⟨ok 0, ok 1, by simp [Kept, newS], by simp [Kept, newS], fun h => absurd rfl h⟩
end Go.Proofs.YtlbpjcphhocdkabGreatDoor.Mod

namespace Go.Proofs.YtlbpjcphhocdkabGreatDoor.Mod

theorem chunk_flatten {α : Type} (n : Nat) : ∀ f (l : List α), (chunk n f l).flatten = l
  | 0, l => by simp [chunk]
  | f + 1, l => by
    unfold chunk
    split
    · simp
    · rw [List.flatten_cons, chunk_flatten n f, List.take_append_drop]
theorem chunk_ne {α : Type} (n : Nat) : ∀ f (l : List α), chunk n f l ≠ []
  | 0, l => by simp [chunk]
  | f + 1, l => by unfold chunk; split <;> simp
theorem chunk_le {α : Type} (n : Nat) (hn : 1 ≤ n) : ∀ f (l : List α), l.length ≤ f → ∀ x ∈ chunk n f l, x.length ≤ n
  | 0, l, h, x, hx => by
    simp [chunk] at hx
    subst hx
    omega
  | f + 1, l, h, x, hx => by
    unfold chunk at hx
    split at hx
    · simp at hx; subst hx; assumption
    · rcases List.mem_cons.1 hx with rfl | hx
      · simp; omega
      · exact chunk_le n hn f _ (by simp; omega) x hx
theorem chunk_some {α : Type} (n : Nat) (hn : 1 ≤ n) : ∀ f (l : List α), l.length ≤ f → l ≠ [] → ∀ x ∈ chunk n f l, x ≠ []
  | 0, l, h, h0, x, hx => by
    simp [chunk] at hx
    subst hx
    exact h0
  | f + 1, l, h, h0, x, hx => by
    unfold chunk at hx
    split at hx
    · simp at hx; subst hx; exact h0
    · rename_i hgt
      rcases List.mem_cons.1 hx with rfl | hx
      · intro he
        have := congrArg List.length he
        simp at this
        rcases this with h | h
        · omega
        · exact h0 h
      · refine chunk_some n hn f _ (by simp; omega) (fun he => ?_) x hx
        have := congrArg List.length he
        simp at this
        omega

theorem groups_flatten (c : Cfg) (m : Msg) : (groups c m).flatten.flatten = m.text := by
  unfold groups pieces
  rw [chunk_flatten, chunk_flatten]
theorem nblk_pos (c : Cfg) (m : Msg) : 1 ≤ nblk c m := by
  unfold nblk groups
  have := chunk_ne c.parts (pieces c m).length (pieces c m)
  cases h : chunk c.parts (pieces c m).length (pieces c m) with
  | nil => exact absurd h this
  | cons a l => simp

/-- The first k blocks of a message. -/
def firsts (c : Cfg) (m : Msg) (k : Nat) : List Bk := (List.range k).map (blkAt c m)
theorem firsts_succ (c : Cfg) (m : Msg) (k : Nat) : firsts c m (k + 1) = firsts c m k ++ [blkAt c m k] := by
  simp [firsts, List.range_succ]
theorem firsts_text (c : Cfg) (m : Msg) (k : Nat) (hk : k ≤ nblk c m) : ((firsts c m k).map (·.parts.flatten)).flatten = ((groups c m).take k).flatten.flatten := by
  induction k with
  | zero => simp [firsts]
  | succ k ih =>
    have hlt : k < (groups c m).length := hk
    rw [firsts_succ, List.take_succ_eq_append_getElem hlt]
    simp only [List.map_append, List.map_cons, List.map_nil, List.flatten_append, List.flatten_cons, List.flatten_nil, List.append_nil]
    rw [ih (by omega)]
    congr 1
    simp [blkAt, List.getD, List.getElem?_eq_getElem hlt]
theorem firsts_head (c : Cfg) (m : Msg) (k : Nat) : ((firsts c m (k + 1)).map (·.head)).flatten = m.head := by
  induction k with
  | zero => simp [firsts, blkAt, List.range_succ]
  | succ k ih =>
    rw [firsts_succ, List.map_append, List.flatten_append, ih]
    simp [blkAt]
theorem firsts_clear (c : Cfg) (m : Msg) (k : Nat) : ((firsts c m (k + 1)).getLast?.map (·.clear)).getD false = m.clear := by
  rw [firsts_succ]
  simp [blkAt]
theorem joined_text_le (c : Cfg) (m : Msg) (k : Nat) (hk : k ≤ nblk c m) : (joinedM (firsts c m k)).text.length ≤ m.text.length := by
  show ((firsts c m k).map (·.parts.flatten)).flatten.length ≤ _
  rw [firsts_text c m k hk]
  have h := groups_flatten c m
  rw [← List.take_append_drop k (groups c m), List.flatten_append, List.flatten_append] at h
  have := congrArg List.length h
  simp only [List.length_append] at this
  omega
theorem joined_head (c : Cfg) (m : Msg) (k : Nat) : (joinedM (firsts c m (k + 1))).head = m.head := firsts_head c m k
theorem joined_all (c : Cfg) (m : Msg) (k : Nat) (hk : k + 1 = nblk c m) : joinedM (firsts c m (k + 1)) = m := by
  have h1 := firsts_head c m k
  have h2 := firsts_text c m (k + 1) (by omega)
  have h3 := firsts_clear c m k
  rw [List.take_of_length_le (show (groups c m).length ≤ k + 1 by unfold nblk at hk; omega), groups_flatten] at h2
  unfold joinedM
  rw [h1, h2, h3]

/-- A message that may join a queue. -/
def MsgOk (m : Msg) : Prop := m.head.length ≤ 8 ∧ m.text.length ≤ 200

theorem takes_good {c : Cfg} {now i k : Nat} {t : Stn} {m : Msg} (hm : MsgOk m) (hg : t.got = firsts c m k) (hk : k < nblk c m) :
    takes c now i t (blkAt c m k) = (if k + 1 = nblk c m then ({ t with due := now + c.lost, count := t.count + 1, got := [] }, tells { t with count := t.count + 1 }, some ⟨1, i, 0, m⟩) else ({ t with due := now + c.lost, count := t.count + 1, got := firsts c m (k + 1) }, tells { t with count := t.count + 1 }, none)) := by
  have e : t.got ++ [blkAt c m k] = firsts c m (k + 1) := by rw [hg, firsts_succ]
  have h1 := joined_head c m k
  have h2 := joined_text_le c m (k + 1) (by omega)
  unfold takes
  rw [e, if_neg (by rw [h1]; have := hm.1; have := hm.2; omega)]
  have hl : (blkAt c m k).last = decide (k + 1 = nblk c m) := rfl
  by_cases hk2 : k + 1 = nblk c m
  · rw [if_pos (by rw [hl]; simp [hk2]), if_pos hk2, joined_all c m k hk2]
  · rw [if_neg (by rw [hl]; simp [hk2]), if_neg hk2]
end Go.Proofs.YtlbpjcphhocdkabGreatDoor.Mod

namespace Go.Proofs.YtlbpjcphhocdkabGreatDoor.Mod

def mine (s : Stn) : Msg := s.queue.headD noMsg

/-- The block under way has not come over, or it has. -/
def Under (c : Cfg) (s t : Stn) (p q : Put) (here : Bool) : Prop :=
  s.block < nblk c (mine s) ∧
  ((t.count = s.block ∧ t.got = firsts c (mine s) s.block ∧ here = false ∧ (∀ b, p = .blk b → b = blkAt c (mine s) s.block) ∧ (∀ k, q = .short k → k = 7 ∨ k = 8 → k = yesN s.block))
   ∨ (t.count = s.block + 1 ∧ (s.block + 1 = nblk c (mine s) → t.got = [] ∧ here = true) ∧ (s.block + 1 ≠ nblk c (mine s) → t.got = firsts c (mine s) (s.block + 1) ∧ here = false) ∧ (∀ b, p ≠ .blk b) ∧ (∀ k, q = .short k → k = yesN (s.block + 1) ∨ k = 9)))

/-- One direction: from the station s to the station t. here: the message under way has been delivered. -/
structure Dir (c : Cfg) (s t : Stn) (p q : Put) (here : Bool) : Prop where
  msgs : ∀ m ∈ s.queue, MsgOk m
  off : s.mode ≠ 2 → here = false
  bid : s.mode = 1 → q = .short 7 → t.count = 0 ∧ t.got = []
  snd : s.mode = 2 → Under c s t p q here

theorem yes_ne (n : Nat) : yesN n ≠ yesN (n + 1) := by unfold yesN; omega

theorem snd_out {c : Cfg} {T i : Nat} {s : Stn} {h : Ans} (hm : s.mode = 2) :
    (kindOf h = yesN (s.block + 1) ∧ s.block + 1 = nblk c (mine s) ∧ one c T i s h = ends T i s 2)
    ∨ (kindOf h = yesN (s.block + 1) ∧ s.block + 1 ≠ nblk c (mine s) ∧ one c T i s h = sendBlk c T { s with block := s.block + 1, tries := 1, off := 0, free := false })
    ∨ (kindOf h ≠ yesN (s.block + 1) ∧ (kindOf h = 7 ∨ kindOf h = 8 ∨ kindOf h = 6) ∧ (one c T i s h = ends T i s 3 ∨ one c T i s h = sendBlk c T { s with tries := s.tries + 1, free := false }))
    ∨ (kindOf h = 9 ∧ one c T i s h = later c T i s)
    ∨ (¬ (kindOf h = 6 ∨ kindOf h = 7 ∨ kindOf h = 8 ∨ kindOf h = 9) ∧ ((T = s.due ∧ one c T i s h = over c T i s) ∨ (T ≠ s.due ∧ one c T i s h = (s, .nil, none)))) := by
  have y := yes_or (s.block + 1)
  unfold one named
  rw [if_neg (show ¬ s.mode = 1 by omega), if_pos hm]
  unfold sending mine
  by_cases ky : kindOf h = yesN (s.block + 1)
  · rw [if_pos ky]
    by_cases hn : s.block + 1 = nblk c (s.queue.headD noMsg)
    · left; rw [if_pos hn]; exact ⟨ky, hn, rfl⟩
    · right; left; rw [if_neg hn]; exact ⟨ky, hn, rfl⟩
  · rw [if_neg ky]
    right; right
    by_cases ka : kindOf h = 7 ∨ kindOf h = 8 ∨ kindOf h = 6
    · left
      rw [if_pos ka]
      refine ⟨ky, ka, ?_⟩
      by_cases hx : s.tries > c.tries
      · left; rw [if_pos hx]
      · right; rw [if_neg hx]
    · right
      rw [if_neg ka]
      by_cases k9 : kindOf h = 9
      · left; rw [if_pos k9]; exact ⟨k9, rfl⟩
      · right
        rw [if_neg k9]
        refine ⟨by omega, ?_⟩
        by_cases hx : T = s.due
        · left
          refine ⟨hx, ?_⟩
          simp only
          rw [if_pos ⟨by omega, hx⟩]
        · right
          refine ⟨hx, ?_⟩
          simp only
          rw [if_neg (fun h => hx h.2), if_neg (by omega)]

/-- Yes0 is put in answer to a bid, or to a block or an Ask. -/
theorem put_seven {c : Cfg} {T j : Nat} {t : Stn} {g : Ans} (hp : (one c T j t g).2.1 = .short 7) : ((one c T j t g).1.count = 0 ∧ (one c T j t g).1.got = []) ∨ kindOf g = 2 ∨ kindOf g = 4 := by
  unfold one named at hp ⊢
  by_cases h1 : t.mode = 1
  · rw [if_pos h1] at hp ⊢
    unfold bidding at hp ⊢
    by_cases k7 : kindOf g = 7
    · rw [if_pos k7] at hp; simp [sendBlk] at hp
    · rw [if_neg k7] at hp ⊢
      by_cases k9 : kindOf g = 9
      · rw [if_pos k9] at hp
        simp only [later] at hp
        split at hp
        · simp [ends, h1] at hp
        · simp at hp
      · rw [if_neg k9] at hp ⊢
        by_cases k3 : kindOf g = 3 ∧ j = 1
        · rw [if_pos k3]
          left
          simp only [answers]
          split <;> simp
        · rw [if_neg k3] at hp
          simp only at hp
          split at hp
          · simp only [over] at hp
            split at hp
            · simp at hp
            · split at hp
              · simp [ends, h1] at hp
              · simp [h1] at hp
          · rw [if_neg (by omega)] at hp
            simp at hp
  · rw [if_neg h1] at hp ⊢
    by_cases h2 : t.mode = 2
    · rw [if_pos h2] at hp
      exfalso
      have o := snd_out (c := c) (T := T) (i := j) (h := g) h2
      unfold one named at o
      rw [if_neg h1, if_pos h2] at o
      rcases o with ⟨_, _, e⟩ | ⟨_, _, e⟩ | ⟨_, _, e | e⟩ | ⟨_, e⟩ | ⟨_, ⟨_, e⟩ | ⟨_, e⟩⟩
      · rw [e] at hp; simp [ends, h2] at hp
      · rw [e] at hp; simp [sendBlk] at hp
      · rw [e] at hp; simp [ends, h2] at hp
      · rw [e] at hp; simp [sendBlk] at hp
      · rw [e] at hp
        simp only [later] at hp
        split at hp
        · simp [ends, h2] at hp
        · simp at hp
      · rw [e] at hp
        simp only [over] at hp
        split at hp
        · simp at hp
        · split at hp
          · simp [ends, h2] at hp
          · simp at hp
      · rw [e] at hp; simp at hp
    · rw [if_neg h2] at hp ⊢
      by_cases h3 : t.mode = 3
      · rw [if_pos h3] at hp ⊢
        unfold receiving at hp ⊢
        cases g with
        | data a b d e => right; left; rfl
        | none n =>
          simp only at hp ⊢
          by_cases n1 : n = 1
          · rw [if_pos n1] at hp; simp at hp
          · rw [if_neg n1] at hp ⊢
            by_cases n4 : n = 4
            · right; right; exact n4
            · rw [if_neg n4] at hp ⊢
              by_cases n3 : n = 3
              · rw [if_pos n3]
                left
                simp only [answers]
                split <;> simp
              · rw [if_neg n3] at hp
                by_cases n5 : n = 5
                · rw [if_pos n5] at hp; simp at hp
                · rw [if_neg n5] at hp
                  simp only at hp
                  split at hp
                  · simp [over, h3] at hp
                  · rw [if_neg (by omega)] at hp
                    simp at hp
      · rw [if_neg h3] at hp ⊢
        unfold idle at hp ⊢
        by_cases k3 : kindOf g = 3
        · rw [if_pos k3]
          left
          simp only [answers]
          split <;> simp
        · rw [if_neg k3] at hp
          simp only at hp
          split at hp
          · simp only [over] at hp
            split at hp
            · simp at hp
            · split at hp
              · simp only [ends] at hp
                split at hp <;> simp at hp
              · simp at hp
          · split at hp
            · simp [bids] at hp
            · simp at hp

/-- A block, or an Ask, is put by who is Sending. -/
theorem heard_snd {c : Cfg} {now i : Nat} {s : Stn} {p q : Put} {g : Ans} (hs : StOk c now i s p) (hh : Hears q p g) (hk : kindOf g = 2 ∨ kindOf g = 4) (hn : ∀ n, p = .short n → n ≠ 2) : s.mode = 2 := by
  rcases hh with ⟨_, rfl⟩ | ⟨_, hm⟩
  · simp [kindOf] at hk
  · cases p with
    | nil => cases hm; simp [kindOf] at hk
    | short n =>
      have hn := hn n rfl
      rcases hm with rfl | rfl
      · simp only [kindOf] at hk
        have e4 : n = 4 := by omega
        subst e4
        rcases hs.put with h | h | h | h | h | h | h | ⟨b, h, _⟩
        · cases h
        · have := h.1; simp at this
        · exact h.2.1
        · have := h.1; simp at this
        · have := h.1; simp at this
        · have := h.1; simp at this
        · have := h.1; simp at this
        · cases h
      · simp [kindOf] at hk
    | blk b =>
      rcases hs.put with h | h | h | h | h | h | h | ⟨b', h⟩
      · cases h
      · have := h.1; cases this
      · have := h.1; cases this
      · have := h.1; cases this
      · rcases h.1 with h | h | h <;> cases h
      · have := h.1; cases this
      · have := h.1; cases this
      · exact h.2.1
theorem put_not_two {c : Cfg} {now i : Nat} {s : Stn} {p : Put} (hs : StOk c now i s p) : ∀ n, p = .short n → n ≠ 2 := by
  intro n hp
  subst hp
  rcases hs.put with h | h | h | h | h | h | h | ⟨b, h, _⟩
  · cases h
  · have := h.1; simp at this; omega
  · have := h.1; simp at this; omega
  · have := h.1; simp at this; omega
  · rcases h.1 with h | h | h <;> (simp at h; omega)
  · have := h.1; simp at this; omega
  · have := h.1; simp at this; omega
  · cases h
end Go.Proofs.YtlbpjcphhocdkabGreatDoor.Mod

namespace Go.Proofs.YtlbpjcphhocdkabGreatDoor.Pst
open Go.Proofs.YtlbpjcphhocdkabGreatDoor.Mod

/-- The station's fields. -/
structure PS where
  side : Nat
  q : List Msg
  joined : Nat
  busy : Bool
  put : List UInt8
  mode : Nat
  wait : Nat
  rest : Nat
  tries : Nat
  off : Nat
  free : Bool
  block : Nat
  head : List UInt8
  text : List UInt8
  yes : Nat

def shortB (k : Nat) : List UInt8 := [22, 22] ++ sbody k ++ [255]
def wt (c : Cfg) (s : PS) : Nat := if s.mode = 1 then (if s.side = 1 then c.second else c.first) else if s.mode = 2 then c.reply else if s.mode = 3 then c.lost else s.wait
def beginWait (c : Cfg) (s : PS) : PS := { s with wait := wt c s }
def putShort (k : Nat) (s : PS) : PS := { s with put := shortB k }
def becomeIdle (s : PS) : PS := { s with mode := 0, wait := 0, tries := 0, off := 0, free := false, block := 0, head := [], text := [], yes := 0 }
def answer (c : Cfg) (s : PS) : PS := if s.busy then putShort 9 (becomeIdle s) else beginWait c (putShort 7 { becomeIdle s with mode := 3, yes := 7 })
def bid (c : Cfg) (s : PS) : PS := beginWait c (putShort 3 { s with mode := 1, tries := 1, off := 0, free := false, block := 0 })
def message (s : PS) : Msg := s.q.headD noMsg
def number (s : PS) : Nat := s.joined - s.q.length + 1
def leave (s : PS) : PS := { s with q := s.q.tail }
def finish (kind : Nat) (s : PS) : PS × Option Ev :=
  ({ becomeIdle (leave (if s.mode = 2 then putShort 5 s else s)) with rest := 3 }, some ⟨kind, s.side, number s, noMsg⟩)
def putOff (c : Cfg) (s : PS) : PS × Option Ev :=
  if s.off + 1 > c.waits then finish 3 { s with off := s.off + 1 } else (beginWait c { s with off := s.off + 1, free := true }, none)
def tryAgain (k : Nat) (c : Cfg) (s : PS) : PS × Option Ev :=
  if s.free = false ∧ s.tries > c.tries then finish 3 s else (beginWait c (putShort k { s with tries := (if s.free then s.tries else s.tries + 1), free := false }), none)
def putBlock (c : Cfg) (s : PS) : PS := { s with put := txOf c (.blk (blkAt c (message s) s.block)) }
def send (k : Nat) (c : Cfg) (s : PS) : PS := beginWait c (putBlock c { s with mode := 2, tries := 1, off := 0, free := false, block := k })
def sendNext (c : Cfg) (s : PS) : PS × Option Ev := if (blkAt c (message s) s.block).last then finish 2 s else (send (s.block + 1) c s, none)
def sendAgain (c : Cfg) (s : PS) : PS × Option Ev :=
  if s.tries > c.tries then finish 3 s else (beginWait c (putBlock c { s with tries := s.tries + 1, free := false }), none)
def expectedYes (b : Nat) : Nat := if b % 2 = 0 then 8 else 7
def otherYes (y : Nat) : Nat := if y = 7 then 8 else 7
def putYes (s : PS) : PS := if s.busy then putShort 9 s else putShort s.yes s
def receive (b : Bk) (s : PS) : PS × Option Ev :=
  if (s.head ++ b.head).length > 8 ∨ (s.text ++ b.parts.flatten).length > 200 then (putShort 6 s, none)
  else if b.last then
    ({ putYes { s with head := s.head ++ b.head, text := s.text ++ b.parts.flatten, yes := otherYes s.yes } with head := [], text := [] }, some ⟨1, s.side, 0, ⟨s.head ++ b.head, s.text ++ b.parts.flatten, b.clear⟩⟩)
  else (putYes { s with head := s.head ++ b.head, text := s.text ++ b.parts.flatten, yes := otherYes s.yes }, none)
def actIdle (k : Nat) (c : Cfg) (s : PS) : PS :=
  if k = 3 then answer c s else if s.q ≠ [] ∧ s.rest = 0 then bid c s else s
def actBidding (k : Nat) (c : Cfg) (s : PS) : PS × Option Ev :=
  if k = 7 then (send 0 c s, none) else if k = 9 then putOff c s else if k = 3 ∧ s.side = 1 then (answer c s, none) else if s.wait = 0 then tryAgain 3 c s else (s, none)
def actSending (k : Nat) (c : Cfg) (s : PS) : PS × Option Ev :=
  if k = expectedYes s.block then sendNext c s else if k = 7 ∨ k = 8 ∨ k = 6 then sendAgain c s else if k = 9 then putOff c s else if s.wait = 0 then tryAgain 4 c s else (s, none)
def actReceiving (h : Ans) (c : Cfg) (s : PS) : PS × Option Ev :=
  match h with
  | .data hd ps cl la => receive ⟨hd, ps, cl, la⟩ (beginWait c s)
  | .none n =>
    if n = 1 then (beginWait c (putShort 6 s), none)
    else if n = 4 then (beginWait c (putYes s), none)
    else if n = 3 then (answer c s, none)
    else if n = 5 ∨ s.wait = 0 then (becomeIdle s, none)
    else (s, none)
def less (s : PS) : PS := { s with wait := s.wait - 1, rest := s.rest - 1 }
def act (h : Ans) (c : Cfg) (s : PS) : PS × Option Ev :=
  if s.mode = 1 then actBidding (kindOf h) c (less s) else if s.mode = 2 then actSending (kindOf h) c (less s) else if s.mode = 3 then actReceiving h c (less s) else (actIdle (kindOf h) c (less s), none)

/-- The fields p stand for the station s behind the tick now; on the line it has l. -/
structure Rel (now i : Nat) (s : Stn) (l : List UInt8) (p : PS) : Prop where
  side : p.side = i
  q : p.q = s.queue
  joined : p.joined = s.joined
  busy : p.busy = s.busy
  put : p.put = l
  mode : p.mode = s.mode
  rest : p.rest = s.rest - now
  wait : s.mode ≠ 0 → p.wait = s.due - now
  own : s.mode = 1 ∨ s.mode = 2 → p.tries = s.tries ∧ p.off = s.off ∧ p.free = s.free
  block : s.mode = 2 → p.block = s.block
  got : s.mode = 3 → p.head = (joinedM s.got).head ∧ p.text = (joinedM s.got).text ∧ p.yes = yesN s.count

/-- The station and what it has put, behind a tick. -/
def RelD (c : Cfg) (now i : Nat) (d : Did) (r : PS × Option Ev) : Prop := Rel now i d.1 (txOf c d.2.1) r.1 ∧ r.2 = d.2.2

theorem shortB_tx (c : Cfg) (k : Nat) : shortB k = txOf c (.short k) := rfl
theorem yesN_other (n : Nat) : otherYes (yesN n) = yesN (n + 1) := by unfold otherYes yesN; split <;> omega
theorem yesN_exp (n : Nat) : expectedYes n = yesN (n + 1) := by unfold expectedYes yesN; split <;> omega

theorem finish_rel {c : Cfg} {now i : Nat} {s : Stn} {p : PS} {l : List UInt8} (k : Nat) (h : Rel now i s l p) (hp : p.put = []) : RelD c now i (ends now i s k) (finish k p) := by
  refine ⟨⟨?_, ?_, ?_, ?_, ?_, ?_, ?_, ?_, ?_, ?_, ?_⟩, ?_⟩
  all_goals simp only [ends, finish, becomeIdle, leave]
  · rw [← h.side]; split <;> rfl
  · rw [← h.q]; split <;> rfl
  · rw [← h.joined]; split <;> rfl
  · rw [← h.busy]; split <;> rfl
  · rw [← h.mode]
    split
    · rfl
    · exact hp
  · omega
  · simp
  · simp
  · simp
  · simp
  · simp only [number]; rw [h.side, h.joined, h.q]

theorem answer_rel {c : Cfg} {now i : Nat} {s : Stn} {p : PS} {l : List UInt8} (h : Rel now i s l p) : RelD c now i (answers c now s) (answer c p, none) := by
  unfold answers answer
  have hbb := h.busy
  cases hb : s.busy
  · rw [hb] at hbb
    rw [hbb, if_neg (by decide), if_neg (by decide)]
    refine ⟨⟨h.side, h.q, h.joined, hbb, rfl, rfl, h.rest, ?_, by simp, by simp, ?_⟩, rfl⟩
    · intro _
      simp [beginWait, putShort, wt]
    · intro _
      exact ⟨rfl, rfl, rfl⟩
  · rw [hb] at hbb
    rw [hbb, if_pos rfl, if_pos rfl]
    exact ⟨⟨h.side, h.q, h.joined, hbb, rfl, rfl, h.rest, by simp, by simp, by simp, by simp⟩, rfl⟩

theorem later_rel {c : Cfg} {now i : Nat} {s : Stn} {p : PS} {l : List UInt8} (h : Rel now i s l p) (hp : p.put = []) (hm : s.mode = 1 ∨ s.mode = 2) (hi : i = 0 ∨ i = 1) : RelD c now i (later c now i s) (putOff c p) := by
  obtain ⟨o1, o2, o3⟩ := h.own hm
  have h' : Rel now i { s with off := s.off + 1 } l { p with off := p.off + 1 } := ⟨h.side, h.q, h.joined, h.busy, h.put, h.mode, h.rest, h.wait, fun _ => ⟨o1, by simp [o2], o3⟩, h.block, h.got⟩
  unfold later putOff
  rw [o2]
  rw [o2] at h'
  split
  · exact finish_rel 3 h' hp
  · refine ⟨⟨h.side, h.q, h.joined, h.busy, hp, h.mode, h.rest, ?_, fun _ => ⟨o1, by simp [beginWait], rfl⟩, h.block, h.got⟩, rfl⟩
    intro _
    simp only [beginWait, wt, patience, h.mode, h.side]
    rcases hm with hm | hm <;> rcases hi with rfl | rfl <;> simp [hm]

theorem try_rel {c : Cfg} {now i : Nat} {s : Stn} {p : PS} {l : List UInt8} (k : Nat) (h : Rel now i s l p) (hp : p.put = []) (hm : s.mode = 1 ∨ s.mode = 2) (hi : i = 0 ∨ i = 1) (hk : k = if s.mode = 2 then 4 else 3) : RelD c now i (over c now i s) (tryAgain k c p) := by
  obtain ⟨o1, o2, o3⟩ := h.own hm
  have h3 : s.mode ≠ 3 := by omega
  unfold over tryAgain
  rw [if_neg h3, o1, o3]
  split
  · exact finish_rel 3 h hp
  · subst hk
    refine ⟨⟨h.side, h.q, h.joined, h.busy, rfl, h.mode, h.rest, ?_, fun _ => ⟨rfl, o2, rfl⟩, h.block, h.got⟩, rfl⟩
    intro _
    simp only [beginWait, putShort, wt, patience, h.mode, h.side]
    rcases hm with hm | hm <;> rcases hi with rfl | rfl <;> simp [hm]

theorem blk_rel {c : Cfg} {now i : Nat} {s : Stn} {p : PS} {l : List UInt8} (h : Rel now i s l p) (hm : s.mode = 2) : RelD c now i (sendBlk c now s) (beginWait c (putBlock c p), none) := by
  obtain ⟨o1, o2, o3⟩ := h.own (Or.inr hm)
  refine ⟨⟨h.side, h.q, h.joined, h.busy, ?_, h.mode, h.rest, ?_, fun _ => ⟨o1, o2, o3⟩, h.block, h.got⟩, rfl⟩
  · simp only [beginWait, putBlock, sendBlk, message, h.q, h.block hm]
  · intro _
    simp only [beginWait, putBlock, sendBlk, wt, h.mode, hm]
    simp

theorem bid_rel {c : Cfg} {now i : Nat} {s : Stn} {p : PS} {l : List UInt8} (h : Rel now i s l p) (hi : i = 0 ∨ i = 1) : RelD c now i (bids c now i s) (bid c p, none) := by
  refine ⟨⟨h.side, h.q, h.joined, h.busy, rfl, rfl, h.rest, ?_, fun _ => ⟨rfl, rfl, rfl⟩, by simp [bids], by simp [bids]⟩, rfl⟩
  intro _
  simp only [bid, beginWait, putShort, bids, wt, patience, h.side]
  rcases hi with rfl | rfl <;> simp

theorem joinedM_snoc (l : List Bk) (b : Bk) : joinedM (l ++ [b]) = ⟨(joinedM l).head ++ b.head, (joinedM l).text ++ b.parts.flatten, b.clear⟩ := by
  simp [joinedM]

theorem putYes_put (c : Cfg) {s : Stn} {p : PS} (hb : p.busy = s.busy) (hy : p.yes = yesN s.count) : (putYes p).put = txOf c (tells s) := by
  unfold putYes tells
  rw [hb, hy]
  split <;> rfl
theorem putYes_eq (p : PS) : putYes p = { p with put := (putYes p).put } := by unfold putYes; split <;> rfl

theorem takes_rel {c : Cfg} {now i : Nat} {s : Stn} {p : PS} {l : List UInt8} (b : Bk) (h : Rel now i s l p) (hm : s.mode = 3) : RelD c now i (takes c now i s b) (receive b (beginWait c p)) := by
  obtain ⟨g1, g2, g3⟩ := h.got hm
  have hw : (beginWait c p).wait = now + c.lost - now := by simp [beginWait, wt, h.mode, hm]
  unfold takes receive
  simp only [joinedM_snoc]
  have e1 : (beginWait c p).head = (joinedM s.got).head := g1
  have e2 : (beginWait c p).text = (joinedM s.got).text := g2
  rw [e1, e2]
  split
  · exact ⟨⟨h.side, h.q, h.joined, h.busy, rfl, h.mode, h.rest, fun _ => hw, by simp [hm], by simp [hm], fun _ => ⟨g1, g2, g3⟩⟩, rfl⟩
  · have hy : otherYes (beginWait c p).yes = yesN (s.count + 1) := by
      have : (beginWait c p).yes = yesN s.count := g3
      rw [this, yesN_other]
    split
    · refine ⟨⟨?_, ?_, ?_, ?_, ?_, ?_, ?_, ?_, by simp [hm], by simp [hm], fun _ => ⟨rfl, rfl, ?_⟩⟩, ?_⟩
      · simp only; rw [putYes_eq]; exact h.side
      · simp only; rw [putYes_eq]; exact h.q
      · simp only; rw [putYes_eq]; exact h.joined
      · simp only; rw [putYes_eq]; exact h.busy
      · exact putYes_put c (s := { s with count := s.count + 1 }) h.busy hy
      · simp only; rw [putYes_eq]; exact h.mode
      · simp only; rw [putYes_eq]; exact h.rest
      · intro _; simp only; rw [putYes_eq]; exact hw
      · simp only; rw [putYes_eq]; exact hy
      · rw [show (beginWait c p).side = i from h.side]
    · refine ⟨⟨?_, ?_, ?_, ?_, ?_, ?_, ?_, ?_, by simp [hm], by simp [hm], fun _ => ⟨?_, ?_, ?_⟩⟩, rfl⟩
      · simp only; rw [putYes_eq]; exact h.side
      · simp only; rw [putYes_eq]; exact h.q
      · simp only; rw [putYes_eq]; exact h.joined
      · simp only; rw [putYes_eq]; exact h.busy
      · exact putYes_put c (s := { s with count := s.count + 1 }) h.busy hy
      · simp only; rw [putYes_eq]; exact h.mode
      · simp only; rw [putYes_eq]; exact h.rest
      · intro _; simp only; rw [putYes_eq]; exact hw
      · simp only; rw [putYes_eq, joinedM_snoc]
      · simp only; rw [putYes_eq, joinedM_snoc]
      · simp only; rw [putYes_eq]; exact hy

theorem rel_less {now i : Nat} {s : Stn} {p : PS} {l : List UInt8} (h : Rel now i s l p) : Rel (now + 1) i s l (less p) := by
  refine ⟨h.side, h.q, h.joined, h.busy, h.put, h.mode, ?_, ?_, h.own, h.block, h.got⟩
  · simp only [less, h.rest]; omega
  · intro hm; simp only [less, h.wait hm]; omega

/-- What the program's station does in a tick is what the document's does. -/
theorem act_rel {c : Cfg} {now i : Nat} {s : Stn} {p : PS} {q : Put} (h : Ans) (hr : Rel now i s [] p) (hs : StOk c now i s q) (hi : i = 0 ∨ i = 1) : RelD c (now + 1) i (one c (now + 1) i s h) (act h c p) := by
  have hl := rel_less hr
  have hp : (less p).put = [] := hr.put
  have same : RelD c (now + 1) i (s, .nil, none) (less p, none) := ⟨⟨hl.side, hl.q, hl.joined, hl.busy, hp, hl.mode, hl.rest, hl.wait, hl.own, hl.block, hl.got⟩, rfl⟩
  have hw0 : s.mode ≠ 0 → ((less p).wait = 0 ↔ now + 1 = s.due) := by
    intro hm
    rw [hl.wait hm]
    have m := hs.mode
    have h1 : now < s.due := by
      rcases (show s.mode = 1 ∨ s.mode = 2 ∨ s.mode = 3 by omega) with k | k | k
      · exact (hs.bid k).1
      · exact (hs.snd k).1
      · exact (hs.rcv k).1
    omega
  have hm3 := hs.mode
  unfold one act named
  rw [hr.mode]
  rcases (show s.mode = 0 ∨ s.mode = 1 ∨ s.mode = 2 ∨ s.mode = 3 by omega) with hm | hm | hm | hm
  · simp only [hm, if_neg (show ¬ (0 : Nat) = 1 by decide), if_neg (show ¬ (0 : Nat) = 2 by decide), if_neg (show ¬ (0 : Nat) = 3 by decide)]
    unfold idle actIdle
    by_cases hk : kindOf h = 3
    · simp only [hk, if_true]
      exact answer_rel hl
    · simp only [hk, if_false]
      rw [hl.q, hl.rest]
      by_cases hb : s.queue ≠ [] ∧ s.rest ≤ now + 1
      · have hb' : s.queue ≠ [] ∧ s.rest - (now + 1) = 0 := ⟨hb.1, by omega⟩
        simp only [ne_eq, not_true_eq_false, false_and, if_false, true_and]
        rw [if_pos hb, if_pos hb']
        exact bid_rel hl hi
      · have hb' : ¬ (s.queue ≠ [] ∧ s.rest - (now + 1) = 0) := fun x => hb ⟨x.1, by omega⟩
        simp only [ne_eq, not_true_eq_false, false_and, if_false, true_and]
        rw [if_neg hb, if_neg hb']
        exact same
  · have hw := hw0 (by omega)
    simp only [hm, if_true]
    unfold bidding actBidding
    by_cases k7 : kindOf h = 7
    · simp only [k7, if_true]
      have h' : Rel (now + 1) i { s with mode := 2, block := 0, tries := 1, off := 0, free := false } [] { less p with mode := 2, tries := 1, off := 0, free := false, block := 0 } :=
        ⟨hl.side, hl.q, hl.joined, hl.busy, hl.put, rfl, hl.rest, fun _ => hl.wait (by omega), fun _ => ⟨rfl, rfl, rfl⟩, fun _ => rfl, by simp⟩
      exact blk_rel h' rfl
    · simp only [k7, if_false]
      by_cases k9 : kindOf h = 9
      · simp only [k9, if_true]
        exact later_rel hl hp (Or.inl hm) hi
      · simp only [k9, if_false]
        rw [hl.side]
        by_cases k3 : kindOf h = 3 ∧ i = 1
        · simp only [k3, and_self, if_true]
          have := answer_rel (c := c) hl
          rw [k3.2] at this
          exact this
        · rw [if_neg k3, if_neg k3]
          by_cases hd : now + 1 = s.due
          · rw [if_pos (hw.2 hd)]
            simp only [ne_eq]
            rw [if_pos ⟨by decide, hd⟩]
            exact try_rel 3 hl hp (Or.inl hm) hi (by simp [hm])
          · rw [if_neg (fun x => hd (hw.1 x))]
            simp only [ne_eq]
            rw [if_neg (fun x => hd x.2), if_neg (by simp)]
            exact same
  · have hw := hw0 (by omega)
    simp only [hm, if_neg (show ¬ (2 : Nat) = 1 by decide), if_true]
    unfold sending actSending
    have hb2 : (less p).block = s.block := hl.block hm
    rw [hb2, yesN_exp]
    by_cases ky : kindOf h = yesN (s.block + 1)
    · simp only [ky, if_true]
      unfold sendNext
      have hlast : (blkAt c (message (less p)) (less p).block).last = decide (s.block + 1 = nblk c (s.queue.headD noMsg)) := by
        rw [hb2]; simp only [message, hl.q]; rfl
      rw [hlast]
      by_cases hn : s.block + 1 = nblk c (s.queue.headD noMsg)
      · simp only [hn, decide_true, if_true]
        exact finish_rel 2 hl hp
      · simp only [hn, decide_false, if_false, Bool.false_eq_true]
        have h' : Rel (now + 1) i { s with block := s.block + 1, tries := 1, off := 0, free := false } [] { less p with mode := 2, tries := 1, off := 0, free := false, block := s.block + 1 } :=
          ⟨hl.side, hl.q, hl.joined, hl.busy, hl.put, hm.symm, hl.rest, fun _ => hl.wait (by omega), fun _ => ⟨rfl, rfl, rfl⟩, fun _ => rfl, by simp [hm]⟩
        rw [hb2]
        exact blk_rel h' hm
    · simp only [ky, if_false]
      by_cases k6 : kindOf h = 7 ∨ kindOf h = 8 ∨ kindOf h = 6
      · simp only [k6, if_true]
        obtain ⟨o1, o2, o3⟩ := hl.own (Or.inr hm)
        unfold sendAgain
        rw [o1]
        by_cases ht : s.tries > c.tries
        · simp only [ht, if_true]
          exact finish_rel 3 hl hp
        · simp only [ht, if_false]
          have h' : Rel (now + 1) i { s with tries := s.tries + 1, free := false } [] { less p with tries := s.tries + 1, free := false } :=
            ⟨hl.side, hl.q, hl.joined, hl.busy, hl.put, hl.mode, hl.rest, hl.wait, fun _ => ⟨rfl, o2, rfl⟩, hl.block, hl.got⟩
          exact blk_rel h' hm
      · simp only [k6, if_false]
        by_cases k9 : kindOf h = 9
        · simp only [k9, if_true]
          exact later_rel hl hp (Or.inr hm) hi
        · simp only [k9, if_false]
          by_cases hd : now + 1 = s.due
          · rw [if_pos (hw.2 hd)]
            simp only [ne_eq]
            rw [if_pos ⟨by decide, hd⟩]
            exact try_rel 4 hl hp (Or.inr hm) hi (by simp [hm])
          · rw [if_neg (fun x => hd (hw.1 x))]
            simp only [ne_eq]
            rw [if_neg (fun x => hd x.2), if_neg (by simp)]
            exact same
  · have hw := hw0 (by omega)
    simp only [hm, if_neg (show ¬ (3 : Nat) = 1 by decide), if_neg (show ¬ (3 : Nat) = 2 by decide), if_true]
    obtain ⟨g1, g2, g3⟩ := hl.got hm
    have hwt : wt c (less p) = now + 1 + c.lost - (now + 1) := by simp [wt, hl.mode, hm]
    have idl : RelD c (now + 1) i ({ s with mode := 0, got := [] }, .nil, none) (becomeIdle (less p), none) := ⟨⟨hl.side, hl.q, hl.joined, hl.busy, hp, rfl, hl.rest, by simp, by simp, by simp, by simp⟩, rfl⟩
    unfold receiving actReceiving
    cases h with
    | data hd ps cl la => exact takes_rel _ hl hm
    | none n =>
      simp only
      by_cases n1 : n = 1
      · simp only [n1, if_true]
        exact ⟨⟨hl.side, hl.q, hl.joined, hl.busy, rfl, hl.mode, hl.rest, fun _ => hwt, by simp [hm], by simp [hm], fun _ => ⟨g1, g2, g3⟩⟩, rfl⟩
      · simp only [n1, if_false]
        by_cases n4 : n = 4
        · simp only [n4, if_true]
          refine ⟨⟨?_, ?_, ?_, ?_, ?_, ?_, ?_, fun _ => ?_, by simp [hm], by simp [hm], fun _ => ⟨?_, ?_, ?_⟩⟩, rfl⟩
          · rw [putYes_eq]; exact hl.side
          · rw [putYes_eq]; exact hl.q
          · rw [putYes_eq]; exact hl.joined
          · rw [putYes_eq]; exact hl.busy
          · exact putYes_put c hl.busy g3
          · rw [putYes_eq]; exact hl.mode
          · rw [putYes_eq]; exact hl.rest
          · rw [putYes_eq]; exact hwt
          · rw [putYes_eq]; exact g1
          · rw [putYes_eq]; exact g2
          · rw [putYes_eq]; exact g3
        · simp only [n4, if_false]
          by_cases n3 : n = 3
          · simp only [n3, if_true]
            exact answer_rel hl
          · simp only [n3, if_false]
            by_cases n5 : n = 5
            · simp only [n5, if_true, true_or]
              exact idl
            · simp only [n5, if_false, false_or]
              by_cases hd : now + 1 = s.due
              · rw [if_pos (hw.2 hd)]
                simp only [ne_eq]
                rw [if_pos ⟨by decide, hd⟩]
                unfold over
                rw [if_pos hm]
                exact idl
              · rw [if_neg (fun x => hd (hw.1 x))]
                simp only [ne_eq]
                rw [if_neg (fun x => hd x.2), if_neg (by simp)]
                exact same

end Go.Proofs.YtlbpjcphhocdkabGreatDoor.Pst
