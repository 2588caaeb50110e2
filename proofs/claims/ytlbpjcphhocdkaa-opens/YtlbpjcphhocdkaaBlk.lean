/- Plain facts on blocks, of no program: what may be sent, and how it is written. -/
import Derived.Test.YtlbpjcphhocdkaaCrc
namespace Go.Proofs.Ytlbpjcphhocdkaa.Blk

/-- The control characters. -/
def isCtl (u : UInt8) : Bool := decide (u.toNat = 1 ∨ u.toNat = 2 ∨ u.toNat = 3 ∨ u.toNat = 4 ∨ u.toNat = 5 ∨ u.toNat = 16 ∨ u.toNat = 21 ∨ u.toNat = 22 ∨ u.toNat = 23 ∨ u.toNat = 31)
def hasCtl (l : List UInt8) : Bool := l.any isCtl
def headOk (h : List UInt8) : Bool := decide (h.length ≤ 8) && !hasCtl h
def partOk (clear : Bool) (p : List UInt8) : Bool := decide (p.length ≤ 32) && (clear || !hasCtl p)
/-- The error of a block. -/
def berr (h : List UInt8) (ps : List (List UInt8)) (clear : Bool) : Int :=
  if headOk h = false then 2 else if ps.length < 1 ∨ 4 < ps.length then 3 else if ps.all (partOk clear) = false then 4 else 0

def dbl (l : List UInt8) : List UInt8 := l.flatMap fun c => if c.toNat = 16 then [16, 16] else [c]
def txt (clear : Bool) (p : List UInt8) : List UInt8 := if clear then dbl p else p
def openL (h : List UInt8) (clear : Bool) : List UInt8 := (if h = [] then [] else 1 :: h) ++ ((if clear then [16] else []) ++ [2])
def endC (last : Bool) (n i : Nat) : UInt8 := if i + 1 < n then 31 else if last then 3 else 23
def endL (clear last : Bool) (n i : Nat) : List UInt8 := (if clear then [16] else []) ++ [endC last n i]
/-- What the i-th check covers. -/
def seg (h : List UInt8) (ps : List (List UInt8)) (clear last : Bool) (i : Nat) : List UInt8 :=
  (if i = 0 then openL h clear else []) ++ (txt clear (ps.getD i []) ++ endL clear last ps.length i)
def bodyTo (h : List UInt8) (ps : List (List UInt8)) (clear last : Bool) (check : Int) : Nat → List UInt8
  | 0 => []
  | k + 1 => bodyTo h ps clear last check k ++ (seg h ps clear last k ++ Crc.sumS check (seg h ps clear last k))
def body (h : List UInt8) (ps : List (List UInt8)) (clear last : Bool) (check : Int) : List UInt8 := bodyTo h ps clear last check ps.length
/-- P5. -/
def encE (h : List UInt8) (ps : List (List UInt8)) (clear : Bool) (check : Int) : Int :=
  if check = 0 ∨ check = 1 then berr h ps clear else 1
def encS (h : List UInt8) (ps : List (List UInt8)) (clear last : Bool) (check : Int) : List UInt8 :=
  if encE h ps clear check = 0 then [22, 22] ++ body h ps clear last check ++ [255] else []

theorem hasCtl_snoc (l : List UInt8) (c : UInt8) : hasCtl (l ++ [c]) = (hasCtl l || isCtl c) := by simp [hasCtl]
theorem hasCtl_take {l : List UInt8} {k : Nat} (h : hasCtl (l.take k) = true) : hasCtl l = true := by
  unfold hasCtl at *
  rw [List.any_eq_true] at *
  obtain ⟨x, hx, hc⟩ := h
  exact ⟨x, List.mem_of_mem_take hx, hc⟩
theorem dbl_snoc (l : List UInt8) (c : UInt8) : dbl (l ++ [c]) = dbl l ++ (if c.toNat = 16 then [16, 16] else [c]) := by simp [dbl]
theorem dbl_length (l : List UInt8) : (dbl l).length ≤ 2 * l.length := by
  unfold dbl
  induction l with
  | nil => simp
  | cons c l ih => simp only [List.flatMap_cons, List.length_append, List.length_cons]; split <;> simp only [List.length_cons, List.length_nil] <;> omega
theorem txt_length (clear : Bool) (l : List UInt8) : (txt clear l).length ≤ 2 * l.length := by
  unfold txt
  split
  · exact dbl_length l
  · omega
theorem openL_length (h : List UInt8) (clear : Bool) : (openL h clear).length ≤ h.length + 3 := by
  unfold openL
  split <;> split <;> simp
  all_goals omega
theorem endL_length (clear last : Bool) (n i : Nat) : (endL clear last n i).length ≤ 2 := by
  unfold endL
  split <;> simp
theorem sumS_length (check : Int) (l : List UInt8) : (Crc.sumS check l).length ≤ 2 := by
  unfold Crc.sumS
  split
  · simp [Crc.crcS]
  · split <;> simp [Crc.xorS]
theorem seg_length (h : List UInt8) (ps : List (List UInt8)) (clear last : Bool) (i m : Nat) (hm : (ps.getD i []).length ≤ m) : (seg h ps clear last i).length ≤ h.length + 2 * m + 5 := by
  unfold seg
  have h1 := openL_length h clear
  have h2 := txt_length clear (ps.getD i [])
  have h3 := endL_length clear last ps.length i
  split <;> simp only [List.length_append, List.length_nil] <;> omega
theorem bodyTo_length (h : List UInt8) (ps : List (List UInt8)) (clear last : Bool) (check : Int) (m : Nat) (hm : ∀ i, (ps.getD i []).length ≤ m) (k : Nat) :
    (bodyTo h ps clear last check k).length ≤ k * (h.length + 2 * m + 7) := by
  induction k with
  | zero => simp [bodyTo]
  | succ k ih =>
    have h1 := seg_length h ps clear last k m (hm k)
    have h2 := sumS_length check (seg h ps clear last k)
    simp only [bodyTo, List.length_append]
    have : (k + 1) * (h.length + 2 * m + 7) = k * (h.length + 2 * m + 7) + (h.length + 2 * m + 7) := Nat.succ_mul _ _
    omega

/-- Of a good block no part is longer than 32. -/
theorem parts_le {ps : List (List UInt8)} {clear : Bool} (h : ps.all (partOk clear) = true) (i : Nat) : (ps.getD i []).length ≤ 32 := by
  by_cases hi : i < ps.length
  · have := List.all_eq_true.1 h ps[i] (List.getElem_mem hi)
    unfold partOk at this
    simp only [Bool.and_eq_true, decide_eq_true_eq] at this
    simpa [List.getD, List.getElem?_eq_getElem hi] using this.1
  · simp [List.getD, List.getElem?_eq_none (Nat.le_of_not_lt hi)]
theorem berr_ok {h : List UInt8} {ps : List (List UInt8)} {clear : Bool} (e : berr h ps clear = 0) :
    headOk h = true ∧ 1 ≤ ps.length ∧ ps.length ≤ 4 ∧ ps.all (partOk clear) = true := by
  unfold berr at e
  split at e
  · omega
  · split at e
    · omega
    · split at e
      · omega
      · rename_i a b c
        refine ⟨by simpa using a, by omega, by omega, by simpa using c⟩
theorem headOk_le {h : List UInt8} (e : headOk h = true) : h.length ≤ 8 := by
  unfold headOk at e
  simp only [Bool.and_eq_true, decide_eq_true_eq] at e
  exact e.1
end Go.Proofs.Ytlbpjcphhocdkaa.Blk
