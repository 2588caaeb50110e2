/- Plain: the line and its two stations, of no program: what each station does in a tick (P7 to P15). -/
import Derived.Test.YtlbpjcphhocdkaaAns
namespace Go.Proofs.Ytlbpjcphhocdkaa.Mod

structure Msg where
  head : List UInt8
  text : List UInt8
  clear : Bool
  deriving DecidableEq
structure Bk where
  head : List UInt8
  parts : List (List UInt8)
  clear : Bool
  last : Bool
  deriving DecidableEq
structure Cfg where
  check : Nat
  size : Nat
  parts : Nat
  queue : Nat
  first : Nat
  second : Nat
  reply : Nat
  lost : Nat
  tries : Nat
  waits : Nat
  deriving DecidableEq

/-- P7's bounds. -/
structure Cfg.Ok (c : Cfg) : Prop where
  check : c.check ≤ 1
  size : 1 ≤ c.size ∧ c.size ≤ 32
  parts : 1 ≤ c.parts ∧ c.parts ≤ 4
  queue : 1 ≤ c.queue ∧ c.queue ≤ 8
  first : 3 ≤ c.first
  second : c.first < c.second ∧ c.second ≤ 20
  reply : 3 ≤ c.reply ∧ c.reply ≤ 20
  tries : 1 ≤ c.tries ∧ c.tries ≤ 7
  waits : c.waits ≤ 7
  lost : (c.tries + 2) * c.reply + 2 ≤ c.lost ∧ c.lost ≤ 255

/-- A station. mode: Idle 0, Bidding 1, Sending 2, Receiving 3; due: the tick in which its wait is over; rest: the first tick in which it may bid again. -/
structure Stn where
  mode : Nat
  busy : Bool
  queue : List Msg
  joined : Nat
  due : Nat
  rest : Nat
  tries : Nat
  off : Nat
  free : Bool
  block : Nat
  count : Nat
  got : List Bk

structure Ev where
  kind : Nat
  station : Nat
  number : Nat
  msg : Msg
  deriving DecidableEq

/-- What a station puts on the line. -/
inductive Put where
  | nil
  | short (k : Nat)
  | blk (b : Bk)
  deriving DecidableEq

/-- P11: a list in pieces of n. -/
def chunk {α : Type} (n : Nat) : Nat → List α → List (List α)
  | 0, l => [l]
  | f + 1, l => if l.length ≤ n then [l] else l.take n :: chunk n f (l.drop n)
def pieces (c : Cfg) (m : Msg) : List (List UInt8) := chunk c.size m.text.length m.text
def groups (c : Cfg) (m : Msg) : List (List (List UInt8)) := chunk c.parts (pieces c m).length (pieces c m)
def blkAt (c : Cfg) (m : Msg) (j : Nat) : Bk :=
  { head := if j = 0 then m.head else [], parts := (groups c m).getD j [], clear := m.clear, last := decide (j + 1 = (groups c m).length) }
def nblk (c : Cfg) (m : Msg) : Nat := (groups c m).length

def noMsg : Msg := ⟨[], [], false⟩
def yesN (n : Nat) : Nat := 7 + n % 2
def patience (c : Cfg) (i mode : Nat) : Nat := if mode = 2 then c.reply else if mode = 3 then c.lost else if i = 0 then c.first else c.second

abbrev Did := Stn × Put × Option Ev

def ends (now i : Nat) (s : Stn) (kind : Nat) : Did :=
  ({ s with queue := s.queue.tail, mode := 0, rest := now + 3 }, (if s.mode = 2 then .short 5 else .nil), some ⟨kind, i, s.joined - s.queue.length + 1, noMsg⟩)
def answers (c : Cfg) (now : Nat) (s : Stn) : Did :=
  if s.busy then ({ s with got := [], count := 0, mode := 0 }, .short 9, none)
  else ({ s with got := [], count := 0, mode := 3, due := now + c.lost }, .short 7, none)
def later (c : Cfg) (now i : Nat) (s : Stn) : Did :=
  if s.off + 1 > c.waits then ends now i { s with off := s.off + 1 } 3
  else ({ s with off := s.off + 1, free := true, due := now + patience c i s.mode }, .nil, none)
def sendBlk (c : Cfg) (now : Nat) (s : Stn) : Did :=
  ({ s with due := now + c.reply }, .blk (blkAt c (s.queue.headD noMsg) s.block), none)
def tells (s : Stn) : Put := if s.busy then .short 9 else .short (yesN s.count)

/-- The kind of what is heard. -/
def kindOf : Ans → Nat
  | .data .. => 2
  | .none n => n

def joinedM (l : List Bk) : Msg :=
  { head := (l.map (·.head)).flatten, text := (l.map (·.parts.flatten)).flatten, clear := (l.getLast?.map (·.clear)).getD false }

def takes (c : Cfg) (now i : Nat) (s : Stn) (b : Bk) : Did :=
  if (joinedM (s.got ++ [b])).head.length > 8 ∨ (joinedM (s.got ++ [b])).text.length > 200 then ({ s with due := now + c.lost }, .short 6, none)
  else if b.last then ({ s with due := now + c.lost, count := s.count + 1, got := [] }, tells { s with count := s.count + 1 }, some ⟨1, i, 0, joinedM (s.got ++ [b])⟩)
  else ({ s with due := now + c.lost, count := s.count + 1, got := s.got ++ [b] }, tells { s with count := s.count + 1 }, none)

/-- P10 to P12, by its mode and what it heard; none: that is not named. -/
def idle (c : Cfg) (now : Nat) (s : Stn) (h : Ans) : Option Did := if kindOf h = 3 then some (answers c now s) else none
def bidding (c : Cfg) (now i : Nat) (s : Stn) (h : Ans) : Option Did :=
  if kindOf h = 7 then some (sendBlk c now { s with mode := 2, block := 0, tries := 1, off := 0, free := false })
  else if kindOf h = 9 then some (later c now i s)
  else if kindOf h = 3 ∧ i = 1 then some (answers c now s)
  else none
def sending (c : Cfg) (now i : Nat) (s : Stn) (h : Ans) : Option Did :=
  if kindOf h = yesN (s.block + 1) then
    if s.block + 1 = nblk c (s.queue.headD noMsg) then some (ends now i s 2)
    else some (sendBlk c now { s with block := s.block + 1, tries := 1, off := 0, free := false })
  else if kindOf h = 7 ∨ kindOf h = 8 ∨ kindOf h = 6 then
    if s.tries > c.tries then some (ends now i s 3) else some (sendBlk c now { s with tries := s.tries + 1, free := false })
  else if kindOf h = 9 then some (later c now i s)
  else none
def receiving (c : Cfg) (now i : Nat) (s : Stn) (h : Ans) : Option Did :=
  match h with
  | .data hd ps cl la => some (takes c now i s ⟨hd, ps, cl, la⟩)
  | .none n =>
    if n = 1 then some ({ s with due := now + c.lost }, .short 6, none)
    else if n = 4 then some ({ s with due := now + c.lost }, tells s, none)
    else if n = 3 then some (answers c now s)
    else if n = 5 then some ({ s with mode := 0, got := [] }, .nil, none)
    else none
def named (c : Cfg) (now i : Nat) (s : Stn) (h : Ans) : Option Did :=
  if s.mode = 1 then bidding c now i s h else if s.mode = 2 then sending c now i s h else if s.mode = 3 then receiving c now i s h else idle c now s h
def over (c : Cfg) (now i : Nat) (s : Stn) : Did :=
  if s.mode = 3 then ({ s with mode := 0, got := [] }, .nil, none)
  else if s.free = false ∧ s.tries > c.tries then ends now i s 3
  else ({ s with tries := (if s.free then s.tries else s.tries + 1), free := false, due := now + patience c i s.mode }, .short (if s.mode = 2 then 4 else 3), none)
def bids (c : Cfg) (now i : Nat) (s : Stn) : Did :=
  ({ s with mode := 1, tries := 1, off := 0, free := false, due := now + patience c i 1 }, .short 3, none)
/-- What a station does in a tick. -/
def one (c : Cfg) (now i : Nat) (s : Stn) (h : Ans) : Did :=
  match named c now i s h with
  | some d => d
  | none =>
    if s.mode ≠ 0 ∧ now = s.due then over c now i s
    else if s.mode = 0 ∧ s.queue ≠ [] ∧ s.rest ≤ now then bids c now i s
    else (s, .nil, none)

/-- The bytes of what is put. -/
def txOf (c : Cfg) : Put → List UInt8
  | .nil => []
  | .short k => [22, 22] ++ sbody k ++ [255]
  | .blk b => [22, 22] ++ Blk.body b.head b.parts b.clear b.last c.check ++ [255]

/-- What is heard of some bytes. -/
theorem reads_some (k : Int) (l : List UInt8) : ∃ A, ReadsAs k l A := by
  cases hb : begins (Prs.restL l)
  · by_cases h : ∃ n : Nat, 3 ≤ n ∧ n ≤ 9 ∧ Prs.restL l = sbody n ++ [255]
    · obtain ⟨n, h1, h2, h3⟩ := h
      exact ⟨.none n, Or.inr ⟨hb, Or.inl ⟨h1, h2, h3⟩⟩⟩
    · exact ⟨.none 0, Or.inr ⟨hb, Or.inr ⟨rfl, fun m a b e => h ⟨m, a, b, e⟩⟩⟩⟩
  · by_cases h : ∃ h0 ps0 c0 t0, Prs.Good k (Prs.restL l) h0 ps0 c0 t0 [255]
    · obtain ⟨h0, ps0, c0, t0, g⟩ := h
      exact ⟨.data h0 ps0 c0 t0, hb, g⟩
    · exact ⟨.none 1, Or.inl ⟨hb, rfl, fun h0 ps0 c0 t0 g => h ⟨h0, ps0, c0, t0, g⟩⟩⟩
noncomputable def hear (c : Cfg) (l : List UInt8) : Ans := Classical.choose (reads_some c.check l)
theorem hear_reads (c : Cfg) (l : List UInt8) : ReadsAs c.check l (hear c l) := Classical.choose_spec (reads_some c.check l)
theorem hear_is {c : Cfg} {l : List UInt8} {A : Ans} (h : ReadsAs c.check l A) : hear c l = A := (hear_reads c l).one h

structure Ln where
  c : Cfg
  now : Nat
  s0 : Stn
  s1 : Stn
  on0 : List UInt8
  on1 : List UInt8

def newS : Stn := ⟨0, false, [], 0, 0, 0, 0, 0, false, 0, 0, []⟩
def newL (c : Cfg) : Ln := ⟨c, 0, newS, newS, [], []⟩

noncomputable def hears0 (x : Ln) : Ans := if x.on0 ≠ [] then .none 0 else hear x.c x.on1
noncomputable def hears1 (x : Ln) : Ans := if x.on1 ≠ [] then .none 0 else hear x.c x.on0
noncomputable def did0 (x : Ln) : Did := one x.c (x.now + 1) 0 x.s0 (hears0 x)
noncomputable def did1 (x : Ln) : Did := one x.c (x.now + 1) 1 x.s1 (hears1 x)
noncomputable def tick (x : Ln) : Ln :=
  { x with now := x.now + 1, s0 := (did0 x).1, s1 := (did1 x).1, on0 := txOf x.c (did0 x).2.1, on1 := txOf x.c (did1 x).2.1 }
noncomputable def events (x : Ln) : List Ev := (did0 x).2.2.toList ++ (did1 x).2.2.toList

end Go.Proofs.Ytlbpjcphhocdkaa.Mod
