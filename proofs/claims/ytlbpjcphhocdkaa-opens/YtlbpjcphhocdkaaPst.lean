/- Plain: a station as the program keeps it (its waits count down), what it does in a tick, and that this is what the document's station does. -/
import Derived.Test.YtlbpjcphhocdkaaFfo2
namespace Go.Proofs.Ytlbpjcphhocdkaa.Pst
open Go.Proofs.Ytlbpjcphhocdkaa.Mod

/-- The station's fields. -/
structure PS where
  side : Nat
  q : List Msg
  joined : Nat
  busy : Bool
  put : List UInt8
  mode : Nat
  wait : Nat
  rest : Nat
  tries : Nat
  off : Nat
  free : Bool
  block : Nat
  head : List UInt8
  text : List UInt8
  yes : Nat

def shortB (k : Nat) : List UInt8 := [22, 22] ++ sbody k ++ [255]
def wt (c : Cfg) (s : PS) : Nat := if s.mode = 1 then (if s.side = 1 then c.second else c.first) else if s.mode = 2 then c.reply else if s.mode = 3 then c.lost else s.wait
def beginWait (c : Cfg) (s : PS) : PS := { s with wait := wt c s }
def putShort (k : Nat) (s : PS) : PS := { s with put := shortB k }
def becomeIdle (s : PS) : PS := { s with mode := 0, wait := 0, tries := 0, off := 0, free := false, block := 0, head := [], text := [], yes := 0 }
def answer (c : Cfg) (s : PS) : PS := if s.busy then putShort 9 (becomeIdle s) else beginWait c (putShort 7 { becomeIdle s with mode := 3, yes := 7 })
def bid (c : Cfg) (s : PS) : PS := beginWait c (putShort 3 { s with mode := 1, tries := 1, off := 0, free := false, block := 0 })
def message (s : PS) : Msg := s.q.headD noMsg
def number (s : PS) : Nat := s.joined - s.q.length + 1
def leave (s : PS) : PS := { s with q := s.q.tail }
def finish (kind : Nat) (s : PS) : PS × Option Ev :=
  ({ becomeIdle (leave (if s.mode = 2 then putShort 5 s else s)) with rest := 3 }, some ⟨kind, s.side, number s, noMsg⟩)
def putOff (c : Cfg) (s : PS) : PS × Option Ev :=
  if s.off + 1 > c.waits then finish 3 { s with off := s.off + 1 } else (beginWait c { s with off := s.off + 1, free := true }, none)
def tryAgain (k : Nat) (c : Cfg) (s : PS) : PS × Option Ev :=
  if s.free = false ∧ s.tries > c.tries then finish 3 s else (beginWait c (putShort k { s with tries := (if s.free then s.tries else s.tries + 1), free := false }), none)
def putBlock (c : Cfg) (s : PS) : PS := { s with put := txOf c (.blk (blkAt c (message s) s.block)) }
def send (k : Nat) (c : Cfg) (s : PS) : PS := beginWait c (putBlock c { s with mode := 2, tries := 1, off := 0, free := false, block := k })
def sendNext (c : Cfg) (s : PS) : PS × Option Ev := if (blkAt c (message s) s.block).last then finish 2 s else (send (s.block + 1) c s, none)
def sendAgain (c : Cfg) (s : PS) : PS × Option Ev :=
  if s.tries > c.tries then finish 3 s else (beginWait c (putBlock c { s with tries := s.tries + 1, free := false }), none)
def expectedYes (b : Nat) : Nat := if b % 2 = 0 then 8 else 7
def otherYes (y : Nat) : Nat := if y = 7 then 8 else 7
def putYes (s : PS) : PS := if s.busy then putShort 9 s else putShort s.yes s
def receive (b : Bk) (s : PS) : PS × Option Ev :=
  if (s.head ++ b.head).length > 8 ∨ (s.text ++ b.parts.flatten).length > 200 then (putShort 6 s, none)
  else if b.last then
    ({ putYes { s with head := s.head ++ b.head, text := s.text ++ b.parts.flatten, yes := otherYes s.yes } with head := [], text := [] }, some ⟨1, s.side, 0, ⟨s.head ++ b.head, s.text ++ b.parts.flatten, b.clear⟩⟩)
  else (putYes { s with head := s.head ++ b.head, text := s.text ++ b.parts.flatten, yes := otherYes s.yes }, none)
def actIdle (k : Nat) (c : Cfg) (s : PS) : PS :=
  if k = 3 then answer c s else if s.q ≠ [] ∧ s.rest = 0 then bid c s else s
def actBidding (k : Nat) (c : Cfg) (s : PS) : PS × Option Ev :=
  if k = 7 then (send 0 c s, none) else if k = 9 then putOff c s else if k = 3 ∧ s.side = 1 then (answer c s, none) else if s.wait = 0 then tryAgain 3 c s else (s, none)
def actSending (k : Nat) (c : Cfg) (s : PS) : PS × Option Ev :=
  if k = expectedYes s.block then sendNext c s else if k = 7 ∨ k = 8 ∨ k = 6 then sendAgain c s else if k = 9 then putOff c s else if s.wait = 0 then tryAgain 4 c s else (s, none)
def actReceiving (h : Ans) (c : Cfg) (s : PS) : PS × Option Ev :=
  match h with
  | .data hd ps cl la => receive ⟨hd, ps, cl, la⟩ (beginWait c s)
  | .none n =>
    if n = 1 then (beginWait c (putShort 6 s), none)
    else if n = 4 then (beginWait c (putYes s), none)
    else if n = 3 then (answer c s, none)
    else if n = 5 ∨ s.wait = 0 then (becomeIdle s, none)
    else (s, none)
def less (s : PS) : PS := { s with wait := s.wait - 1, rest := s.rest - 1 }
def act (h : Ans) (c : Cfg) (s : PS) : PS × Option Ev :=
  if s.mode = 1 then actBidding (kindOf h) c (less s) else if s.mode = 2 then actSending (kindOf h) c (less s) else if s.mode = 3 then actReceiving h c (less s) else (actIdle (kindOf h) c (less s), none)

/-- The fields p stand for the station s behind the tick now; on the line it has l. -/
structure Rel (now i : Nat) (s : Stn) (l : List UInt8) (p : PS) : Prop where
  side : p.side = i
  q : p.q = s.queue
  joined : p.joined = s.joined
  busy : p.busy = s.busy
  put : p.put = l
  mode : p.mode = s.mode
  rest : p.rest = s.rest - now
  wait : s.mode ≠ 0 → p.wait = s.due - now
  own : s.mode = 1 ∨ s.mode = 2 → p.tries = s.tries ∧ p.off = s.off ∧ p.free = s.free
  block : s.mode = 2 → p.block = s.block
  got : s.mode = 3 → p.head = (joinedM s.got).head ∧ p.text = (joinedM s.got).text ∧ p.yes = yesN s.count

/-- The station and what it has put, behind a tick. -/
def RelD (c : Cfg) (now i : Nat) (d : Did) (r : PS × Option Ev) : Prop := Rel now i d.1 (txOf c d.2.1) r.1 ∧ r.2 = d.2.2

theorem shortB_tx (c : Cfg) (k : Nat) : shortB k = txOf c (.short k) := rfl
theorem yesN_other (n : Nat) : otherYes (yesN n) = yesN (n + 1) := by unfold otherYes yesN; split <;> omega
theorem yesN_exp (n : Nat) : expectedYes n = yesN (n + 1) := by unfold expectedYes yesN; split <;> omega

theorem finish_rel {c : Cfg} {now i : Nat} {s : Stn} {p : PS} {l : List UInt8} (k : Nat) (h : Rel now i s l p) (hp : p.put = []) : RelD c now i (ends now i s k) (finish k p) := by
  refine ⟨⟨?_, ?_, ?_, ?_, ?_, ?_, ?_, ?_, ?_, ?_, ?_⟩, ?_⟩
  all_goals simp only [ends, finish, becomeIdle, leave]
  · rw [← h.side]; split <;> rfl
  · rw [← h.q]; split <;> rfl
  · rw [← h.joined]; split <;> rfl
  · rw [← h.busy]; split <;> rfl
  · rw [← h.mode]
    split
    · rfl
    · exact hp
  · omega
  · simp
  · simp
  · simp
  · simp
  · simp only [number]; rw [h.side, h.joined, h.q]

theorem answer_rel {c : Cfg} {now i : Nat} {s : Stn} {p : PS} {l : List UInt8} (h : Rel now i s l p) : RelD c now i (answers c now s) (answer c p, none) := by
  unfold answers answer
  have hbb := h.busy
  cases hb : s.busy
  · rw [hb] at hbb
    rw [hbb, if_neg (by decide), if_neg (by decide)]
    refine ⟨⟨h.side, h.q, h.joined, hbb, rfl, rfl, h.rest, ?_, by simp, by simp, ?_⟩, rfl⟩
    · intro _
      simp [beginWait, putShort, wt]
    · intro _
      exact ⟨rfl, rfl, rfl⟩
  · rw [hb] at hbb
    rw [hbb, if_pos rfl, if_pos rfl]
    exact ⟨⟨h.side, h.q, h.joined, hbb, rfl, rfl, h.rest, by simp, by simp, by simp, by simp⟩, rfl⟩

theorem later_rel {c : Cfg} {now i : Nat} {s : Stn} {p : PS} {l : List UInt8} (h : Rel now i s l p) (hp : p.put = []) (hm : s.mode = 1 ∨ s.mode = 2) (hi : i = 0 ∨ i = 1) : RelD c now i (later c now i s) (putOff c p) := by
  obtain ⟨o1, o2, o3⟩ := h.own hm
  have h' : Rel now i { s with off := s.off + 1 } l { p with off := p.off + 1 } := ⟨h.side, h.q, h.joined, h.busy, h.put, h.mode, h.rest, h.wait, fun _ => ⟨o1, by simp [o2], o3⟩, h.block, h.got⟩
  unfold later putOff
  rw [o2]
  rw [o2] at h'
  split
  · exact finish_rel 3 h' hp
  · refine ⟨⟨h.side, h.q, h.joined, h.busy, hp, h.mode, h.rest, ?_, fun _ => ⟨o1, by simp [beginWait], rfl⟩, h.block, h.got⟩, rfl⟩
    intro _
    simp only [beginWait, wt, patience, h.mode, h.side]
    rcases hm with hm | hm <;> rcases hi with rfl | rfl <;> simp [hm]

theorem try_rel {c : Cfg} {now i : Nat} {s : Stn} {p : PS} {l : List UInt8} (k : Nat) (h : Rel now i s l p) (hp : p.put = []) (hm : s.mode = 1 ∨ s.mode = 2) (hi : i = 0 ∨ i = 1) (hk : k = if s.mode = 2 then 4 else 3) : RelD c now i (over c now i s) (tryAgain k c p) := by
  obtain ⟨o1, o2, o3⟩ := h.own hm
  have h3 : s.mode ≠ 3 := by omega
  unfold over tryAgain
  rw [if_neg h3, o1, o3]
  split
  · exact finish_rel 3 h hp
  · subst hk
    refine ⟨⟨h.side, h.q, h.joined, h.busy, rfl, h.mode, h.rest, ?_, fun _ => ⟨rfl, o2, rfl⟩, h.block, h.got⟩, rfl⟩
    intro _
    simp only [beginWait, putShort, wt, patience, h.mode, h.side]
    rcases hm with hm | hm <;> rcases hi with rfl | rfl <;> simp [hm]

theorem blk_rel {c : Cfg} {now i : Nat} {s : Stn} {p : PS} {l : List UInt8} (h : Rel now i s l p) (hm : s.mode = 2) : RelD c now i (sendBlk c now s) (beginWait c (putBlock c p), none) := by
  obtain ⟨o1, o2, o3⟩ := h.own (Or.inr hm)
  refine ⟨⟨h.side, h.q, h.joined, h.busy, ?_, h.mode, h.rest, ?_, fun _ => ⟨o1, o2, o3⟩, h.block, h.got⟩, rfl⟩
  · simp only [beginWait, putBlock, sendBlk, message, h.q, h.block hm]
  · intro _
    simp only [beginWait, putBlock, sendBlk, wt, h.mode, hm]
    simp

theorem bid_rel {c : Cfg} {now i : Nat} {s : Stn} {p : PS} {l : List UInt8} (h : Rel now i s l p) (hi : i = 0 ∨ i = 1) : RelD c now i (bids c now i s) (bid c p, none) := by
  refine ⟨⟨h.side, h.q, h.joined, h.busy, rfl, rfl, h.rest, ?_, fun _ => ⟨rfl, rfl, rfl⟩, by simp [bids], by simp [bids]⟩, rfl⟩
  intro _
  simp only [bid, beginWait, putShort, bids, wt, patience, h.side]
  rcases hi with rfl | rfl <;> simp

theorem joinedM_snoc (l : List Bk) (b : Bk) : joinedM (l ++ [b]) = ⟨(joinedM l).head ++ b.head, (joinedM l).text ++ b.parts.flatten, b.clear⟩ := by
  simp [joinedM]

theorem putYes_put (c : Cfg) {s : Stn} {p : PS} (hb : p.busy = s.busy) (hy : p.yes = yesN s.count) : (putYes p).put = txOf c (tells s) := by
  unfold putYes tells
  rw [hb, hy]
  split <;> rfl
theorem putYes_eq (p : PS) : putYes p = { p with put := (putYes p).put } := by unfold putYes; split <;> rfl

theorem takes_rel {c : Cfg} {now i : Nat} {s : Stn} {p : PS} {l : List UInt8} (b : Bk) (h : Rel now i s l p) (hm : s.mode = 3) : RelD c now i (takes c now i s b) (receive b (beginWait c p)) := by
  obtain ⟨g1, g2, g3⟩ := h.got hm
  have hw : (beginWait c p).wait = now + c.lost - now := by simp [beginWait, wt, h.mode, hm]
  unfold takes receive
  simp only [joinedM_snoc]
  have e1 : (beginWait c p).head = (joinedM s.got).head := g1
  have e2 : (beginWait c p).text = (joinedM s.got).text := g2
  rw [e1, e2]
  split
  · exact ⟨⟨h.side, h.q, h.joined, h.busy, rfl, h.mode, h.rest, fun _ => hw, by simp [hm], by simp [hm], fun _ => ⟨g1, g2, g3⟩⟩, rfl⟩
  · have hy : otherYes (beginWait c p).yes = yesN (s.count + 1) := by
      have : (beginWait c p).yes = yesN s.count := g3
      rw [this, yesN_other]
    split
    · refine ⟨⟨?_, ?_, ?_, ?_, ?_, ?_, ?_, ?_, by simp [hm], by simp [hm], fun _ => ⟨rfl, rfl, ?_⟩⟩, ?_⟩
      · simp only; rw [putYes_eq]; exact h.side
      · simp only; rw [putYes_eq]; exact h.q
      · simp only; rw [putYes_eq]; exact h.joined
      · simp only; rw [putYes_eq]; exact h.busy
      · exact putYes_put c (s := { s with count := s.count + 1 }) h.busy hy
      · simp only; rw [putYes_eq]; exact h.mode
      · simp only; rw [putYes_eq]; exact h.rest
      · intro _; simp only; rw [putYes_eq]; exact hw
      · simp only; rw [putYes_eq]; exact hy
      · rw [show (beginWait c p).side = i from h.side]
    · refine ⟨⟨?_, ?_, ?_, ?_, ?_, ?_, ?_, ?_, by simp [hm], by simp [hm], fun _ => ⟨?_, ?_, ?_⟩⟩, rfl⟩
      · simp only; rw [putYes_eq]; exact h.side
      · simp only; rw [putYes_eq]; exact h.q
      · simp only; rw [putYes_eq]; exact h.joined
      · simp only; rw [putYes_eq]; exact h.busy
      · exact putYes_put c (s := { s with count := s.count + 1 }) h.busy hy
      · simp only; rw [putYes_eq]; exact h.mode
      · simp only; rw [putYes_eq]; exact h.rest
      · intro _; simp only; rw [putYes_eq]; exact hw
      · simp only; rw [putYes_eq, joinedM_snoc]
      · simp only; rw [putYes_eq, joinedM_snoc]
      · simp only; rw [putYes_eq]; exact hy

theorem rel_less {now i : Nat} {s : Stn} {p : PS} {l : List UInt8} (h : Rel now i s l p) : Rel (now + 1) i s l (less p) := by
  refine ⟨h.side, h.q, h.joined, h.busy, h.put, h.mode, ?_, ?_, h.own, h.block, h.got⟩
  · simp only [less, h.rest]; omega
  · intro hm; simp only [less, h.wait hm]; omega

/-- What the program's station does in a tick is what the document's does. -/
theorem act_rel {c : Cfg} {now i : Nat} {s : Stn} {p : PS} {q : Put} (h : Ans) (hr : Rel now i s [] p) (hs : StOk c now i s q) (hi : i = 0 ∨ i = 1) : RelD c (now + 1) i (one c (now + 1) i s h) (act h c p) := by
  have hl := rel_less hr
  have hp : (less p).put = [] := hr.put
  have same : RelD c (now + 1) i (s, .nil, none) (less p, none) := ⟨⟨hl.side, hl.q, hl.joined, hl.busy, hp, hl.mode, hl.rest, hl.wait, hl.own, hl.block, hl.got⟩, rfl⟩
  have hw0 : s.mode ≠ 0 → ((less p).wait = 0 ↔ now + 1 = s.due) := by
    intro hm
    rw [hl.wait hm]
    have m := hs.mode
    have h1 : now < s.due := by
      rcases (show s.mode = 1 ∨ s.mode = 2 ∨ s.mode = 3 by omega) with k | k | k
      · exact (hs.bid k).1
      · exact (hs.snd k).1
      · exact (hs.rcv k).1
    omega
  have hm3 := hs.mode
  unfold one act named
  rw [hr.mode]
  rcases (show s.mode = 0 ∨ s.mode = 1 ∨ s.mode = 2 ∨ s.mode = 3 by omega) with hm | hm | hm | hm
  · simp only [hm, if_neg (show ¬ (0 : Nat) = 1 by decide), if_neg (show ¬ (0 : Nat) = 2 by decide), if_neg (show ¬ (0 : Nat) = 3 by decide)]
    unfold idle actIdle
    by_cases hk : kindOf h = 3
    · simp only [hk, if_true]
      exact answer_rel hl
    · simp only [hk, if_false]
      rw [hl.q, hl.rest]
      by_cases hb : s.queue ≠ [] ∧ s.rest ≤ now + 1
      · have hb' : s.queue ≠ [] ∧ s.rest - (now + 1) = 0 := ⟨hb.1, by omega⟩
        simp only [ne_eq, not_true_eq_false, false_and, if_false, true_and]
        rw [if_pos hb, if_pos hb']
        exact bid_rel hl hi
      · have hb' : ¬ (s.queue ≠ [] ∧ s.rest - (now + 1) = 0) := fun x => hb ⟨x.1, by omega⟩
        simp only [ne_eq, not_true_eq_false, false_and, if_false, true_and]
        rw [if_neg hb, if_neg hb']
        exact same
  · have hw := hw0 (by omega)
    simp only [hm, if_true]
    unfold bidding actBidding
    by_cases k7 : kindOf h = 7
    · simp only [k7, if_true]
      have h' : Rel (now + 1) i { s with mode := 2, block := 0, tries := 1, off := 0, free := false } [] { less p with mode := 2, tries := 1, off := 0, free := false, block := 0 } :=
        ⟨hl.side, hl.q, hl.joined, hl.busy, hl.put, rfl, hl.rest, fun _ => hl.wait (by omega), fun _ => ⟨rfl, rfl, rfl⟩, fun _ => rfl, by simp⟩
      exact blk_rel h' rfl
    · simp only [k7, if_false]
      by_cases k9 : kindOf h = 9
      · simp only [k9, if_true]
        exact later_rel hl hp (Or.inl hm) hi
      · simp only [k9, if_false]
        rw [hl.side]
        by_cases k3 : kindOf h = 3 ∧ i = 1
        · simp only [k3, and_self, if_true]
          have := answer_rel (c := c) hl
          rw [k3.2] at this
          exact this
        · rw [if_neg k3, if_neg k3]
          by_cases hd : now + 1 = s.due
          · rw [if_pos (hw.2 hd)]
            simp only [ne_eq]
            rw [if_pos ⟨by decide, hd⟩]
            exact try_rel 3 hl hp (Or.inl hm) hi (by simp [hm])
          · rw [if_neg (fun x => hd (hw.1 x))]
            simp only [ne_eq]
            rw [if_neg (fun x => hd x.2), if_neg (by simp)]
            exact same
  · have hw := hw0 (by omega)
    simp only [hm, if_neg (show ¬ (2 : Nat) = 1 by decide), if_true]
    unfold sending actSending
    have hb2 : (less p).block = s.block := hl.block hm
    rw [hb2, yesN_exp]
    by_cases ky : kindOf h = yesN (s.block + 1)
    · simp only [ky, if_true]
      unfold sendNext
      have hlast : (blkAt c (message (less p)) (less p).block).last = decide (s.block + 1 = nblk c (s.queue.headD noMsg)) := by
        rw [hb2]; simp only [message, hl.q]; rfl
      rw [hlast]
      by_cases hn : s.block + 1 = nblk c (s.queue.headD noMsg)
      · simp only [hn, decide_true, if_true]
        exact finish_rel 2 hl hp
      · simp only [hn, decide_false, if_false, Bool.false_eq_true]
        have h' : Rel (now + 1) i { s with block := s.block + 1, tries := 1, off := 0, free := false } [] { less p with mode := 2, tries := 1, off := 0, free := false, block := s.block + 1 } :=
          ⟨hl.side, hl.q, hl.joined, hl.busy, hl.put, hm.symm, hl.rest, fun _ => hl.wait (by omega), fun _ => ⟨rfl, rfl, rfl⟩, fun _ => rfl, by simp [hm]⟩
        rw [hb2]
        exact blk_rel h' hm
    · simp only [ky, if_false]
      by_cases k6 : kindOf h = 7 ∨ kindOf h = 8 ∨ kindOf h = 6
      · simp only [k6, if_true]
        obtain ⟨o1, o2, o3⟩ := hl.own (Or.inr hm)
        unfold sendAgain
        rw [o1]
        by_cases ht : s.tries > c.tries
        · simp only [ht, if_true]
          exact finish_rel 3 hl hp
        · simp only [ht, if_false]
          have h' : Rel (now + 1) i { s with tries := s.tries + 1, free := false } [] { less p with tries := s.tries + 1, free := false } :=
            ⟨hl.side, hl.q, hl.joined, hl.busy, hl.put, hl.mode, hl.rest, hl.wait, fun _ => ⟨rfl, o2, rfl⟩, hl.block, hl.got⟩
          exact blk_rel h' hm
      · simp only [k6, if_false]
        by_cases k9 : kindOf h = 9
        · simp only [k9, if_true]
          exact later_rel hl hp (Or.inr hm) hi
        · simp only [k9, if_false]
          by_cases hd : now + 1 = s.due
          · rw [if_pos (hw.2 hd)]
            simp only [ne_eq]
            rw [if_pos ⟨by decide, hd⟩]
            exact try_rel 4 hl hp (Or.inr hm) hi (by simp [hm])
          · rw [if_neg (fun x => hd (hw.1 x))]
            simp only [ne_eq]
            rw [if_neg (fun x => hd x.2), if_neg (by simp)]
            exact same
  · have hw := hw0 (by omega)
    simp only [hm, if_neg (show ¬ (3 : Nat) = 1 by decide), if_neg (show ¬ (3 : Nat) = 2 by decide), if_true]
    obtain ⟨g1, g2, g3⟩ := hl.got hm
    have hwt : wt c (less p) = now + 1 + c.lost - (now + 1) := by simp [wt, hl.mode, hm]
    have idl : RelD c (now + 1) i ({ s with mode := 0, got := [] }, .nil, none) (becomeIdle (less p), none) := ⟨⟨hl.side, hl.q, hl.joined, hl.busy, hp, rfl, hl.rest, by simp, by simp, by simp, by simp⟩, rfl⟩
    unfold receiving actReceiving
    cases h with
    | data hd ps cl la => exact takes_rel _ hl hm
    | none n =>
      simp only
      by_cases n1 : n = 1
      · simp only [n1, if_true]
        exact ⟨⟨hl.side, hl.q, hl.joined, hl.busy, rfl, hl.mode, hl.rest, fun _ => hwt, by simp [hm], by simp [hm], fun _ => ⟨g1, g2, g3⟩⟩, rfl⟩
      · simp only [n1, if_false]
        by_cases n4 : n = 4
        · simp only [n4, if_true]
          refine ⟨⟨?_, ?_, ?_, ?_, ?_, ?_, ?_, fun _ => ?_, by simp [hm], by simp [hm], fun _ => ⟨?_, ?_, ?_⟩⟩, rfl⟩
          · rw [putYes_eq]; exact hl.side
          · rw [putYes_eq]; exact hl.q
          · rw [putYes_eq]; exact hl.joined
          · rw [putYes_eq]; exact hl.busy
          · exact putYes_put c hl.busy g3
          · rw [putYes_eq]; exact hl.mode
          · rw [putYes_eq]; exact hl.rest
          · rw [putYes_eq]; exact hwt
          · rw [putYes_eq]; exact g1
          · rw [putYes_eq]; exact g2
          · rw [putYes_eq]; exact g3
        · simp only [n4, if_false]
          by_cases n3 : n = 3
          · simp only [n3, if_true]
            exact answer_rel hl
          · simp only [n3, if_false]
            by_cases n5 : n = 5
            · simp only [n5, if_true, true_or]
              exact idl
            · simp only [n5, if_false, false_or]
              by_cases hd : now + 1 = s.due
              · rw [if_pos (hw.2 hd)]
                simp only [ne_eq]
                rw [if_pos ⟨by decide, hd⟩]
                unfold over
                rw [if_pos hm]
                exact idl
              · rw [if_neg (fun x => hd (hw.1 x))]
                simp only [ne_eq]
                rw [if_neg (fun x => hd x.2), if_neg (by simp)]
                exact same

end Go.Proofs.Ytlbpjcphhocdkaa.Pst
