/- Plain facts on what is heard, of no program: what is left behind the SYN, how a part is cut, where a block's parts stand, and that bytes begin with one block at most. -/
import Derived.Test.YtlbpjcphhocdkaaBlk
namespace Go.Proofs.Ytlbpjcphhocdkaa.Prs
open Blk

def syn (u : UInt8) : Bool := decide (u.toNat = 22)
/-- What is left behind the first two SYN and those that follow. -/
def restL : List UInt8 → List UInt8
  | a :: b :: t => if syn a = true ∧ syn b = true then t.dropWhile syn else restL (b :: t)
  | _ => []

theorem drop_two (l : List UInt8) (k : Nat) (h : k + 1 < l.length) : l.drop k = l[k] :: l[k + 1] :: l.drop (k + 2) := by
  rw [List.drop_eq_getElem_cons (by omega), List.drop_eq_getElem_cons h]
theorem dw_step (l : List UInt8) (k : Nat) (h : k < l.length) (hs : l[k].toNat = 22) : (l.drop k).dropWhile syn = (l.drop (k + 1)).dropWhile syn := by
  rw [List.drop_eq_getElem_cons h, List.dropWhile_cons_of_pos (by simp [syn, hs])]
theorem dw_stop (l : List UInt8) (k : Nat) (h : k < l.length) (hs : ¬ l[k].toNat = 22) : (l.drop k).dropWhile syn = l.drop k := by
  rw [List.drop_eq_getElem_cons h, List.dropWhile_cons_of_neg (by simp [syn, hs])]
theorem dw_end (l : List UInt8) (k : Nat) (h : l.length ≤ k) : (l.drop k).dropWhile syn = [] := by rw [List.drop_of_length_le h]; rfl
theorem restL_hit (l : List UInt8) (k : Nat) (h : k + 1 < l.length) (h1 : l[k].toNat = 22) (h2 : l[k + 1].toNat = 22) : restL (l.drop k) = (l.drop k).dropWhile syn := by
  rw [dw_step l k (by omega) h1, dw_step l (k + 1) h h2, drop_two l k h]
  simp only [restL, syn, h1, h2, decide_true, and_self, if_true]
theorem restL_step (l : List UInt8) (k : Nat) (h : k + 1 < l.length) (hn : ¬ (l[k].toNat = 22 ∧ l[k + 1].toNat = 22)) : restL (l.drop k) = restL (l.drop (k + 1)) := by
  rw [drop_two l k h, List.drop_eq_getElem_cons h]
  simp only [restL, syn, decide_eq_true_eq]
  rw [if_neg hn]
theorem restL_end (l : List UInt8) (k : Nat) (h : l.length ≤ k + 1) : restL (l.drop k) = [] := by
  have : (l.drop k).length ≤ 1 := by simp; omega
  match hl : l.drop k, this with
  | [], _ => rfl
  | [a], _ => rfl
  | a :: b :: t, h => simp at h

/-- How the program cuts a part off: its text, its end, how many bytes these take. -/
def cutF (c : Bool) : List UInt8 → List UInt8 × UInt8 × Nat
  | [] => ([], 0, 0)
  | [x] => if c = true ∧ x.toNat = 16 then ([], 0, 2) else if c = false ∧ isCtl x = true then ([], x, 1) else ([x], 0, 1)
  | x :: y :: t =>
    if c = true ∧ x.toNat = 16 then
      if y.toNat = 16 then (y :: (cutF c t).1, (cutF c t).2.1, (cutF c t).2.2 + 2) else ([], y, 2)
    else if c = false ∧ isCtl x = true then ([], x, 1)
    else (x :: (cutF c (y :: t)).1, (cutF c (y :: t)).2.1, (cutF c (y :: t)).2.2 + 1)

theorem cutF_ctl (x : UInt8) (t : List UInt8) (h : isCtl x = true) : cutF false (x :: t) = ([], x, 1) := by
  cases t <;> simp [cutF, h]
theorem cutF_txt (c : Bool) (x : UInt8) (t : List UInt8) (h1 : ¬ (c = true ∧ x.toNat = 16)) (h2 : ¬ (c = false ∧ isCtl x = true)) : cutF c (x :: t) = (x :: (cutF c t).1, (cutF c t).2.1, (cutF c t).2.2 + 1) := by
  cases t with
  | nil => simp only [cutF, if_neg h1, if_neg h2]
  | cons y t => rw [cutF, if_neg h1, if_neg h2]
theorem cutF_two (x y : UInt8) (t : List UInt8) (h1 : x.toNat = 16) (h2 : y.toNat = 16) : cutF true (x :: y :: t) = (y :: (cutF true t).1, (cutF true t).2.1, (cutF true t).2.2 + 2) := by
  rw [cutF, if_pos ⟨rfl, h1⟩, if_pos h2]
theorem cutF_out (x y : UInt8) (t : List UInt8) (h1 : x.toNat = 16) (h2 : ¬ y.toNat = 16) : cutF true (x :: y :: t) = ([], y, 2) := by
  rw [cutF, if_pos ⟨rfl, h1⟩, if_neg h2]
theorem cutF_lone (x : UInt8) (h1 : x.toNat = 16) : cutF true [x] = ([], 0, 2) := by rw [cutF, if_pos ⟨rfl, h1⟩]

theorem cutF_plain (p : List UInt8) (e : UInt8) (post : List UInt8) (hp : hasCtl p = false) (he : isCtl e = true) : cutF false (p ++ e :: post) = (p, e, p.length + 1) := by
  induction p with
  | nil => exact cutF_ctl e post he
  | cons a p ih =>
    simp only [hasCtl, List.any_cons, Bool.or_eq_false_iff] at hp
    rw [List.cons_append, cutF_txt false a _ (by simp) (by simp [hp.1]), ih hp.2]
    rfl
theorem dbl_cons (a : UInt8) (p : List UInt8) : dbl (a :: p) = (if a.toNat = 16 then [16, 16] else [a]) ++ dbl p := by simp [dbl]
theorem cutF_clear (p : List UInt8) (e : UInt8) (post : List UInt8) (he : ¬ e.toNat = 16) : cutF true (dbl p ++ 16 :: e :: post) = (p, e, (dbl p).length + 2) := by
  induction p with
  | nil => exact cutF_out 16 e post rfl he
  | cons a p ih =>
    by_cases h : a.toNat = 16
    · have ea : a = 16 := UInt8.toNat_inj.1 h
      subst ea
      rw [dbl_cons, if_pos h]
      show cutF true (16 :: 16 :: (dbl p ++ 16 :: e :: post)) = _
      rw [cutF_two 16 16 _ rfl rfl, ih]
      rfl
    · rw [dbl_cons, if_neg h]
      show cutF true (a :: (dbl p ++ 16 :: e :: post)) = _
      rw [cutF_txt true a _ (by simp [h]) (by simp), ih]
      simp only [List.length_append, List.length_cons, List.length_nil, Prod.mk.injEq, true_and]
      omega
theorem cutF_len (c : Bool) : ∀ l, (cutF c l).1.length ≤ l.length
  | [] => by simp [cutF]
  | [x] => by
    rw [cutF]
    split
    · simp
    · split <;> simp
  | x :: y :: t => by
    have h1 := cutF_len c (y :: t)
    have h2 := cutF_len c t
    rw [cutF]
    split
    · split
      · simp only [List.length_cons]; omega
      · simp
    · split
      · simp
      · simp only [List.length_cons] at h1 ⊢; omega

/-- How the document's reading cuts a part off: its text, and where its end's character stands. -/
def partR (c : Bool) : List UInt8 → Option (List UInt8 × Nat)
  | [] => none
  | [x] => if c = true ∧ x.toNat = 16 then none else if c = false ∧ (x.toNat = 31 ∨ x.toNat = 23 ∨ x.toNat = 3) then some ([], 0) else none
  | x :: y :: t =>
    if c = true ∧ x.toNat = 16 then
      if y.toNat = 16 then (partR c t).map (fun q => (y :: q.1, q.2 + 2)) else some ([], 1)
    else if c = false ∧ (x.toNat = 31 ∨ x.toNat = 23 ∨ x.toNat = 3) then some ([], 0)
    else (partR c (y :: t)).map (fun q => (x :: q.1, q.2 + 1))

theorem partR_end (x : UInt8) (t : List UInt8) (h : x.toNat = 31 ∨ x.toNat = 23 ∨ x.toNat = 3) : partR false (x :: t) = some ([], 0) := by
  cases t <;> simp [partR, h]
theorem partR_txt (c : Bool) (x : UInt8) (t : List UInt8) (h1 : ¬ (c = true ∧ x.toNat = 16)) (h2 : ¬ (c = false ∧ (x.toNat = 31 ∨ x.toNat = 23 ∨ x.toNat = 3))) : partR c (x :: t) = (partR c t).map (fun q => (x :: q.1, q.2 + 1)) := by
  cases t with
  | nil => simp only [partR, if_neg h1, if_neg h2, Option.map_none]
  | cons y t => rw [partR, if_neg h1, if_neg h2]
theorem partR_two (x y : UInt8) (t : List UInt8) (h1 : x.toNat = 16) (h2 : y.toNat = 16) : partR true (x :: y :: t) = (partR true t).map (fun q => (y :: q.1, q.2 + 2)) := by
  rw [partR, if_pos ⟨rfl, h1⟩, if_pos h2]
theorem partR_out (x y : UInt8) (t : List UInt8) (h1 : x.toNat = 16) (h2 : ¬ y.toNat = 16) : partR true (x :: y :: t) = some ([], 1) := by
  rw [partR, if_pos ⟨rfl, h1⟩, if_neg h2]
theorem partR_lone (x : UInt8) (h1 : x.toNat = 16) : partR true [x] = none := by rw [partR, if_pos ⟨rfl, h1⟩]

theorem partR_plain (p : List UInt8) (e : UInt8) (post : List UInt8) (hp : hasCtl p = false) (he : e.toNat = 31 ∨ e.toNat = 23 ∨ e.toNat = 3) : partR false (p ++ e :: post) = some (p, p.length) := by
  induction p with
  | nil => exact partR_end e post he
  | cons a p ih =>
    simp only [hasCtl, List.any_cons, Bool.or_eq_false_iff] at hp
    have h1 : ¬ (a.toNat = 31 ∨ a.toNat = 23 ∨ a.toNat = 3) := by
      have := hp.1
      unfold isCtl at this
      simp only [decide_eq_false_iff_not] at this
      omega
    rw [List.cons_append, partR_txt false a _ (by simp) (by simp only [true_and]; exact h1), ih hp.2]
    rfl
theorem partR_clear (p : List UInt8) (e : UInt8) (post : List UInt8) (he : ¬ e.toNat = 16) : partR true (dbl p ++ 16 :: e :: post) = some (p, (dbl p).length + 1) := by
  induction p with
  | nil => exact partR_out 16 e post rfl he
  | cons a p ih =>
    by_cases h : a.toNat = 16
    · have ea : a = 16 := UInt8.toNat_inj.1 h
      subst ea
      rw [dbl_cons, if_pos h]
      show partR true (16 :: 16 :: (dbl p ++ 16 :: e :: post)) = _
      rw [partR_two 16 16 _ rfl rfl, ih]
      rfl
    · rw [dbl_cons, if_neg h]
      show partR true (a :: (dbl p ++ 16 :: e :: post)) = _
      rw [partR_txt true a _ (by simp [h]) (by simp), ih]
      simp only [List.length_append, List.length_cons, List.length_nil, Option.map_some, Option.some.injEq, Prod.mk.injEq, true_and]
      omega

/-- What stands ahead of the j-th part. -/
def pre (h : List UInt8) (ps : List (List UInt8)) (c t : Bool) (k : Int) (j : Nat) : List UInt8 := if j = 0 then openL h c else bodyTo h ps c t k j

/-- The bytes r begin with this block's body. -/
structure Good (k : Int) (r : List UInt8) (h : List UInt8) (ps : List (List UInt8)) (c t : Bool) (x : List UInt8) : Prop where
  ok : berr h ps c = 0
  kc : k = 0 ∨ k = 1
  eq : r = body h ps c t k ++ x

theorem sum_len {k : Int} (hk : k = 0 ∨ k = 1) (l : List UInt8) : (Crc.sumS k l).length = k.toNat + 1 := by
  rcases hk with rfl | rfl <;> rfl
theorem esc_len (c t : Bool) (n j : Nat) : (endL c t n j).length = (if c then 2 else 1) := by cases c <;> simp [endL]

theorem bodyTo_pre (h : List UInt8) (ps : List (List UInt8)) (c t : Bool) (k : Int) (j : Nat) :
    bodyTo h ps c t k (j + 1) = pre h ps c t k j ++ (txt c (ps.getD j []) ++ (endL c t ps.length j ++ Crc.sumS k (seg h ps c t j))) := by
  unfold pre
  by_cases hj : j = 0
  · subst hj; simp [bodyTo, seg]
  · simp [bodyTo, seg, hj]
theorem bodyTo_more (h : List UInt8) (ps : List (List UInt8)) (c t : Bool) (k : Int) (j m : Nat) : ∃ y, bodyTo h ps c t k (j + m) = bodyTo h ps c t k j ++ y := by
  induction m with
  | zero => exact ⟨[], by simp⟩
  | succ m ih =>
    obtain ⟨y, hy⟩ := ih
    rw [← Nat.add_assoc]
    exact ⟨y ++ _, by rw [bodyTo, hy, List.append_assoc]⟩
theorem pre_succ (h : List UInt8) (ps : List (List UInt8)) (c t : Bool) (k : Int) (j : Nat) : pre h ps c t k (j + 1) = bodyTo h ps c t k (j + 1) := by unfold pre; rw [if_neg (by omega)]

theorem Good.part {k : Int} {r h : List UInt8} {ps : List (List UInt8)} {c t : Bool} {x : List UInt8} (g : Good k r h ps c t x) (j : Nat) (hj : j < ps.length) :
    ∃ y, r.drop (pre h ps c t k j).length = txt c (ps.getD j []) ++ (endL c t ps.length j ++ (Crc.sumS k (seg h ps c t j) ++ y)) := by
  obtain ⟨y, hy⟩ := bodyTo_more h ps c t k (j + 1) (ps.length - (j + 1))
  rw [show j + 1 + (ps.length - (j + 1)) = ps.length by omega, bodyTo_pre] at hy
  refine ⟨y ++ x, ?_⟩
  rw [g.eq]
  unfold body
  rw [hy]
  simp only [List.append_assoc]
  exact List.drop_left
theorem Good.step {k : Int} {r h : List UInt8} {ps : List (List UInt8)} {c t : Bool} {x : List UInt8} (g : Good k r h ps c t x) (j : Nat) :
    (pre h ps c t k (j + 1)).length = (pre h ps c t k j).length + (txt c (ps.getD j [])).length + (if c then 2 else 1) + (k.toNat + 1) := by
  rw [pre_succ, bodyTo_pre]
  simp only [List.length_append, sum_len g.kc, esc_len]
  omega

theorem Good.openR {k : Int} {r h : List UInt8} {ps : List (List UInt8)} {c t : Bool} {x : List UInt8} (g : Good k r h ps c t x) : ∃ y, r = openL h c ++ y := by
  obtain ⟨h1, h2, h3, h4⟩ := berr_ok g.ok
  obtain ⟨y, hy⟩ := bodyTo_more h ps c t k 1 (ps.length - 1)
  rw [show 1 + (ps.length - 1) = ps.length by omega, show (1 : Nat) = 0 + 1 from rfl, bodyTo_pre] at hy
  refine ⟨(txt c (ps.getD 0 []) ++ (endL c t ps.length 0 ++ Crc.sumS k (seg h ps c t 0))) ++ y ++ x, ?_⟩
  rw [g.eq]
  unfold body
  rw [hy]
  simp only [List.append_assoc, pre, if_true]

theorem headOk_no {h : List UInt8} (e : headOk h = true) : hasCtl h = false := by
  unfold headOk at e
  simp only [Bool.and_eq_true, Bool.not_eq_true'] at e
  exact e.2

/-- The head and the mark Clear, as the bytes tell them. -/
def headP (f : UInt8 → Bool) (r : List UInt8) : List UInt8 := if (r.getD 0 0).toNat = 1 then (r.drop 1).takeWhile f else []
def clearP (r h : List UInt8) : Bool := decide ((r.getD (if h = [] then 0 else 1 + h.length) 0).toNat = 16)

theorem takeWhile_upto (f : UInt8 → Bool) (h : List UInt8) (e : UInt8) (y : List UInt8) (hh : ∀ u ∈ h, f u = true) (he : f e = false) : (h ++ e :: y).takeWhile f = h := by
  induction h with
  | nil => simp [he]
  | cons a h ih =>
    rw [List.cons_append, List.takeWhile_cons_of_pos (hh a (by simp)), ih (fun u hu => hh u (by simp [hu]))]
theorem Good.head {k : Int} {r h : List UInt8} {ps : List (List UInt8)} {c t : Bool} {x : List UInt8} (g : Good k r h ps c t x) (f : UInt8 → Bool) (hf : ∀ u, isCtl u = false → f u = true) (h2 : f 2 = false) (h16 : f 16 = false) :
    headP f r = h ∧ clearP r h = c := by
  obtain ⟨y, hy⟩ := g.openR
  have hc := headOk_no (berr_ok g.ok).1
  subst hy
  unfold headP clearP openL
  by_cases hn : h = []
  · subst hn
    cases c <;> simp
  · have hall : ∀ u ∈ h, f u = true := fun u hu => hf u (by
      unfold hasCtl at hc
      rw [List.any_eq_false] at hc
      simpa using hc u hu)
    rw [if_neg hn, if_neg hn]
    cases c
    · refine ⟨?_, ?_⟩
      · simp only [Bool.false_eq_true, if_false, List.nil_append, List.cons_append, List.append_assoc]
        simp only [List.getD_cons_zero, show (1 : UInt8).toNat = 1 from rfl, if_true, List.drop_succ_cons, List.drop_zero]
        exact takeWhile_upto f h 2 y hall h2
      · simp [List.getD, Nat.add_comm 1 h.length]
    · refine ⟨?_, ?_⟩
      · simp only [if_true, List.cons_append, List.nil_append, List.append_assoc]
        simp only [List.getD_cons_zero, show (1 : UInt8).toNat = 1 from rfl, if_true, List.drop_succ_cons, List.drop_zero]
        exact takeWhile_upto f h 16 (2 :: y) hall h16
      · simp [List.getD, Nat.add_comm 1 h.length]

theorem endC_ctl (t : Bool) (n j : Nat) : isCtl (endC t n j) = true ∧ ((endC t n j).toNat = 31 ∨ (endC t n j).toNat = 23 ∨ (endC t n j).toNat = 3) ∧ ¬ (endC t n j).toNat = 16 := by
  unfold endC
  split
  · decide
  · cases t <;> decide
theorem endC_mid' (t : Bool) (n j : Nat) (h : j + 1 < n) : (endC t n j).toNat = 31 := by simp [endC, h]
theorem endC_end' (t : Bool) (n j : Nat) (h : ¬ j + 1 < n) : ¬ (endC t n j).toNat = 31 ∧ ((endC t n j).toNat = 3 ↔ t = true) := by
  cases t <;> simp [endC, h]

theorem part_plain {k : Int} {r h : List UInt8} {ps : List (List UInt8)} {t : Bool} {x : List UInt8} {c : Bool} (g : Good k r h ps c t x) (j : Nat) (hj : j < ps.length) (hc : c = false) : hasCtl (ps.getD j []) = false := by
  have h4 := (berr_ok g.ok).2.2.2
  have := List.all_eq_true.1 h4 ps[j] (List.getElem_mem hj)
  unfold partOk at this
  subst hc
  simp only [Bool.and_eq_true, Bool.false_or, Bool.not_eq_true'] at this
  simpa [List.getD, List.getElem?_eq_getElem hj] using this.2

/-- What each way of cutting finds of a good block's part. -/
theorem Good.cut {k : Int} {r h : List UInt8} {ps : List (List UInt8)} {c t : Bool} {x : List UInt8} (g : Good k r h ps c t x) (j : Nat) (hj : j < ps.length) :
    cutF c (r.drop (pre h ps c t k j).length) = (ps.getD j [], endC t ps.length j, (txt c (ps.getD j [])).length + (if c then 2 else 1)) := by
  obtain ⟨y, hy⟩ := g.part j hj
  rw [hy]
  have he := endC_ctl t ps.length j
  cases hc : c
  · subst hc
    simp only [txt, endL, Bool.false_eq_true, if_false, List.nil_append, List.cons_append]
    exact cutF_plain _ _ _ (part_plain g j hj rfl) he.1
  · subst hc
    simp only [txt, endL, if_true, List.nil_append, List.cons_append]
    exact cutF_clear _ _ _ he.2.2
theorem Good.cutR {k : Int} {r h : List UInt8} {ps : List (List UInt8)} {c t : Bool} {x : List UInt8} (g : Good k r h ps c t x) (j : Nat) (hj : j < ps.length) :
    partR c (r.drop (pre h ps c t k j).length) = some (ps.getD j [], (txt c (ps.getD j [])).length + (if c then 1 else 0)) ∧
    r.getD ((pre h ps c t k j).length + ((txt c (ps.getD j [])).length + (if c then 1 else 0))) 0 = endC t ps.length j := by
  obtain ⟨y, hy⟩ := g.part j hj
  have he := endC_ctl t ps.length j
  have hget : ∀ m, r.getD ((pre h ps c t k j).length + m) 0 = (r.drop (pre h ps c t k j).length).getD m 0 := by
    intro m
    simp [List.getD, List.getElem?_drop]
  rw [hget, hy]
  cases hc : c
  · subst hc
    simp only [txt, endL, Bool.false_eq_true, if_false, List.nil_append, List.cons_append, Nat.add_zero]
    exact ⟨partR_plain _ _ _ (part_plain g j hj rfl) he.2.1, by simp [List.getD]⟩
  · subst hc
    simp only [txt, endL, if_true, List.nil_append, List.cons_append]
    refine ⟨partR_clear _ _ _ he.2.2, by simp [List.getD]⟩

/-- Bytes begin with one block at most. -/
theorem Good.one {k : Int} {r h h' : List UInt8} {ps ps' : List (List UInt8)} {c c' t t' : Bool} {x x' : List UInt8} (g : Good k r h ps c t x) (g' : Good k r h' ps' c' t' x') :
    h = h' ∧ ps = ps' ∧ c = c' ∧ t = t' ∧ x = x' := by
  have hf : ∀ u, isCtl u = false → (fun u => !isCtl u) u = true := by intro u hu; simp [hu]
  have a := g.head (fun u => !isCtl u) hf rfl rfl
  have a' := g'.head (fun u => !isCtl u) hf rfl rfl
  have eh : h = h' := a.1.symm.trans a'.1
  subst eh
  have ec : c = c' := a.2.symm.trans a'.2
  subst ec
  have n1 := (berr_ok g.ok).2.1
  have n1' := (berr_ok g'.ok).2.1
  have key : ∀ j, j ≤ ps.length → j ≤ ps'.length → (pre h ps c t k j).length = (pre h ps' c t' k j).length ∧ ps.take j = ps'.take j := by
    intro j
    induction j with
    | zero => intro _ _; exact ⟨by simp [pre], rfl⟩
    | succ j ih =>
      intro h1 h2
      obtain ⟨e1, e2⟩ := ih (by omega) (by omega)
      have b := g.cut j (by omega)
      have b' := g'.cut j (by omega)
      rw [e1] at b
      have b2 := b.symm.trans b'
      have e3 : ps.getD j [] = ps'.getD j [] := (Prod.mk.inj b2).1
      refine ⟨by rw [g.step j, g'.step j, e1, e3], ?_⟩
      rw [List.take_succ_eq_append_getElem (by omega), List.take_succ_eq_append_getElem (by omega), e2]
      simp [List.getD, List.getElem?_eq_getElem (show j < ps.length by omega), List.getElem?_eq_getElem (show j < ps'.length by omega)] at e3
      rw [e3]
  have ends : ∀ j, j < ps.length → j < ps'.length → endC t ps.length j = endC t' ps'.length j := by
    intro j h1 h2
    have b := g.cut j h1
    have b' := g'.cut j h2
    rw [(key j (by omega) (by omega)).1] at b
    exact (Prod.mk.inj (Prod.mk.inj (b.symm.trans b')).2).1
  have hlen : ps.length = ps'.length := by
    rcases Nat.lt_trichotomy ps.length ps'.length with hl | hl | hl
    · have e := ends (ps.length - 1) (by omega) (by omega)
      have m := endC_mid' t' ps'.length (ps.length - 1) (by omega)
      have q := (endC_end' t ps.length (ps.length - 1) (by omega)).1
      rw [e] at q; exact absurd m q
    · exact hl
    · have e := ends (ps'.length - 1) (by omega) (by omega)
      have m := endC_mid' t ps.length (ps'.length - 1) (by omega)
      have q := (endC_end' t' ps'.length (ps'.length - 1) (by omega)).1
      rw [← e] at q; exact absurd m q
  have eps : ps = ps' := by
    have := (key ps.length (by omega) (by omega)).2
    rw [List.take_length, hlen, List.take_length] at this
    exact this
  subst eps
  have et : t = t' := by
    have e := ends (ps.length - 1) (by omega) (by omega)
    have q := (endC_end' t ps.length (ps.length - 1) (by omega)).2
    have q' := (endC_end' t' ps.length (ps.length - 1) (by omega)).2
    rw [e] at q
    have : t = true ↔ t' = true := q.symm.trans q'
    cases t <;> cases t' <;> simp_all
  subst et
  refine ⟨rfl, rfl, rfl, rfl, ?_⟩
  have := g.eq.symm.trans g'.eq
  exact List.append_cancel_left this

end Go.Proofs.Ytlbpjcphhocdkaa.Prs
