/-What the harness does to the line: who speaks alone; all is lost. A fault of the harness. -/
import Derived.Test.YtlbpjcphhocdkabGreatDoorGKc2
namespace Go.Proofs.YtlbpjcphhocdkabGreatDoor
set_option maxRecDepth 1000000
open Go.RowKit Go.Proofs.YtlbpjcphhocdkabGreatDoor.Mod Go.Proofs.YtlbpjcphhocdkabGreatDoor.Pst Go.Proofs.YtlbpjcphhocdkabGreatDoor.Run

def aloneI (x : Ln) : Int := if x.on0 ≠ [] ∧ x.on1 = [] then 0 else if x.on0 = [] ∧ x.on1 ≠ [] then 1 else -1

set_option maxHeartbeats 4000000 in
theorem alone_run (S : Nat → Prop) (A : RA) (r : R) (w : World) (h : RunAt w S A r) :
    Calls Tryz.prog 46 #[.pointer (some ⟨A.rb, 0, none⟩)] w fun e w' => e = .returned (.int .i64 (aloneI r.x)) ∧ Below w.heap.size w w' := by
  obtain ⟨c0, _⟩ := h.cells
  have HH := hide h
  have hrb := h.lt.1
  clear h
  go_enter Tryz.func46, Tryz.ntmps46
  go_wp2_with fail
  refine (onLine_run S A r 0 _ HH.out).mono ?_
  rintro e w1 ⟨rfl, hb1'⟩
  have HB1 := hide hb1'
  have c0' : w1.cell? ⟨A.rb, 0, none⟩ = some (.pointer (some ⟨A.xb, 0, none⟩)) := (hb1'.cell hrb).trans c0
  clear hb1'
  go_wp2_with fail
  refine (onLine_run S A r 1 _ (HH.out.below HB1.out)).mono ?_
  rintro e w2 ⟨rfl, hb2'⟩
  have HB2 := hide (below_step HB1.out hb2')
  have e0 : onOf r.x 0 = r.x.on0 := rfl
  have e1 : onOf r.x 1 = r.x.on1 := rfl
  rw [e0, e1]
  clear e0 e1 hb2' c0 c0'
  generalize hs0 : (⟨r.x.on0.toArray⟩ : ByteArray) = s0
  generalize hs1 : (⟨r.x.on1.toArray⟩ : ByteArray) = s1
  by_cases h0 : r.x.on0 = []
  · have k0 := bytes_empty _ h0 hs0
    by_cases h1 : r.x.on1 = []
    · have k1 := bytes_empty _ h1 hs1
      have HE : Hid (aloneI r.x = -1) := by unfold Hid aloneI; rw [if_neg (fun k => k.1 h0), if_neg (fun k => k.2 h1)]
      clear h0 h1 hs0 hs1
      go_wp2
      go_ret
      exact ⟨by rw [HE.out]; rfl, HB2.out⟩
    · obtain ⟨k1, k1'⟩ := bytes_some _ h1 hs1
      have HE : Hid (aloneI r.x = 1) := by unfold Hid aloneI; rw [if_neg (fun k => k.1 h0), if_pos ⟨h0, h1⟩]
      clear h0 h1 hs0 hs1
      go_wp2
      go_ret
      exact ⟨by rw [HE.out]; rfl, HB2.out⟩
  · obtain ⟨k0, k0'⟩ := bytes_some _ h0 hs0
    by_cases h1 : r.x.on1 = []
    · have k1 := bytes_empty _ h1 hs1
      have HE : Hid (aloneI r.x = 0) := by unfold Hid aloneI; rw [if_pos ⟨h0, h1⟩]
      clear h0 h1 hs0 hs1
      go_wp2
      go_ret
      exact ⟨by rw [HE.out]; rfl, HB2.out⟩
    · obtain ⟨k1, k1'⟩ := bytes_some _ h1 hs1
      have HE : Hid (aloneI r.x = -1) := by unfold Hid aloneI; rw [if_neg (fun k => h1 k.2), if_neg (fun k => h0 k.1)]
      clear h0 h1 hs0 hs1
      go_wp2
      go_ret
      exact ⟨by rw [HE.out]; rfl, HB2.out⟩

theorem faultL_c (x : Ln) (k p v : Int) : (faultL x k p v).c = x.c := by
  unfold faultL
  split
  · rfl
  · split <;> rfl
theorem busyL_c (x : Ln) (st : Int) (on : Bool) : (busyL x st on).c = x.c := by
  unfold busyL
  split
  · rfl
  · split <;> rfl
theorem submitL_c (x : Ln) (st : Int) (m : Msg) : (submitL x st m).c = x.c := by
  unfold submitL
  split
  · split <;> rfl
  · rfl
/-- Fault, Busy in the run. -/
theorem faulted_run (S : Nat → Prop) (A : RA) (r : R) (k p v : Int) (w : World) (h : RunAt w S A r) (hg : LGood r.x) :
    Calls Tryz.prog 36 #[.pointer (some ⟨A.xb, 0, none⟩), .int .i64 k, .int .i64 p, .int .i64 v] w fun e w' => e = .returned (.int .i64 (faultE r.x k p v)) ∧ RunAt w' (Plus S w) A { r with x := faultL r.x k p v } ∧ Fr S w w' := by
  obtain ⟨F, hl, hF, kk⟩ := h.line
  refine (fault_line F A.xb r.x k p v w hl hg).mono ?_
  rintro e w' ⟨rfl, hL, hf⟩
  have ho := hl.own
  obtain ⟨k1, k2⟩ := kk w' _ (fun _ => False) (hf.mono fun g e => by rw [e]; exact ho) (hL.mono fun g hg => ⟨Or.inl hg, id⟩) (faultL_c _ _ _ _) (fun g e => e.elim)
  exact ⟨rfl, k1.mono fun g hg => hg.1, k2⟩
theorem busied_run (S : Nat → Prop) (A : RA) (r : R) (st : Int) (on : Bool) (w : World) (h : RunAt w S A r) :
    Calls Tryz.prog 34 #[.pointer (some ⟨A.xb, 0, none⟩), .int .i64 st, .bool on] w fun e w' => e = .returned (.int .i64 (busyE st)) ∧ RunAt w' (Plus S w) A { r with x := busyL r.x st on } ∧ Fr S w w' := by
  obtain ⟨F, hl, hF, kk⟩ := h.line
  refine (busy_line F A.xb r.x st on w hl).mono ?_
  rintro e w' ⟨rfl, hL, hf⟩
  have ho := hl.own
  obtain ⟨k1, k2⟩ := kk w' _ (fun _ => False) (hf.mono fun g e => by rw [e]; exact ho) (hL.mono fun g hg => ⟨Or.inl hg, id⟩) (busyL_c _ _ _) (fun g e => e.elim)
  exact ⟨rfl, k1.mono fun g hg => hg.1, k2⟩
theorem submitted_run (S : Nat → Prop) (A : RA) (r : R) (st : Int) (m : Msg) (w : World) (h : RunAt w S A r) (hg : LGood r.x) (j0 : r.x.s0.joined ≤ 100000000000000) (j1 : r.x.s1.joined ≤ 100000000000000) (hh : m.head.length ≤ 140737488352000) (ht : m.text.length ≤ 140737488352000) :
    Calls Tryz.prog 27 #[.pointer (some ⟨A.xb, 0, none⟩), .int .i64 st, msgV m] w fun e w' => e = .returned (.tuple #[.int .i64 (submitN r.x st m), .int .i64 (submitE r.x st m)]) ∧ RunAt w' (Plus S w) A { r with x := submitL r.x st m } ∧ Fr S w w' := by
  obtain ⟨F, hl, hF, kk⟩ := h.line
  refine (submit_line F A.xb r.x st m w hl hg j0 j1 hh ht).mono ?_
  rintro e w' ⟨rfl, hL, hf⟩
  obtain ⟨k1, k2⟩ := kk w' _ (fun _ => False) hf (hL.mono fun g hg => ⟨hg, id⟩) (submitL_c _ _ _) (fun g e => e.elim)
  exact ⟨rfl, k1.mono fun g hg => hg.1, k2⟩

theorem Plus.trans {S : Nat → Prop} {w W : World} (h : w.heap.size ≤ W.heap.size) : ∀ g, Plus (Plus S w) W g → Plus S w g := fun g k => k.elim id (fun y => Or.inr (by omega))
theorem Plus.of {S : Nat → Prop} {w W : World} (h : w.heap.size ≤ W.heap.size) : ∀ g, Plus S W g → Plus S w g := fun g k => k.imp id (fun y => by omega)

theorem lost_E (x : Ln) : faultE x 0 0 0 = if 0 ≤ aloneI x then 0 else 9 := by
  unfold faultE aloneI
  have e : ∀ s, faultOf s 0 0 0 = some [] := fun s => rfl
  rw [e, e]
  by_cases h0 : x.on0 ≠ [] ∧ x.on1 = []
  · rw [if_pos h0, if_pos h0]; rfl
  · rw [if_neg h0, if_neg h0]
    by_cases h1 : x.on0 = [] ∧ x.on1 ≠ []
    · rw [if_pos h1, if_pos h1]; rfl
    · rw [if_neg h1, if_neg h1]; rfl
theorem alone_cases (x : Ln) : aloneI x = 0 ∨ aloneI x = 1 ∨ aloneI x = -1 := by
  unfold aloneI
  split
  · exact Or.inl rfl
  · split
    · exact Or.inr (Or.inl rfl)
    · exact Or.inr (Or.inr rfl)

set_option maxHeartbeats 4000000 in
theorem lose_run (S : Nat → Prop) (A : RA) (r : R) (w : World) (h : RunAt w S A r) (hg : LGood r.x) :
    Calls Tryz.prog 37 #[.pointer (some ⟨A.rb, 0, none⟩)] w fun e w' => e = .returned (.tuple #[]) ∧ RunAt w' (Plus S w) A { r with x := faultL r.x 0 0 0 } ∧ Fr S w w' := by
  obtain ⟨c0, _⟩ := h.cells
  have HH := hide h
  have HG := hide hg
  have hrb := h.lt.1
  clear h hg
  go_enter Tryz.func37, Tryz.ntmps37
  go_wp2_with fail
  refine (alone_run S A r _ HH.out).mono ?_
  rintro e w1 ⟨rfl, hb1'⟩
  have HB1 := hide hb1'
  have c0' : w1.cell? ⟨A.rb, 0, none⟩ = some (.pointer (some ⟨A.xb, 0, none⟩)) := (hb1'.cell hrb).trans c0
  clear hb1'
  go_wp2_with fail
  refine (faulted_run S A r 0 0 0 _ (HH.out.below HB1.out) HG.out).mono ?_
  rintro e w2 ⟨rfl, h2, hf2⟩
  have HK : Hid (RunAt w2 (Plus S w) A { r with x := faultL r.x 0 0 0 } ∧ Fr S w w2) := ⟨h2.mono (Plus.of HB1.out.size), (Fr.of_below HB1.out).trans hf2 (fun _ _ k => k)⟩
  have hl := lost_E r.x
  clear h2 hf2 c0 c0'
  rcases alone_cases r.x with k | k | k
  all_goals
    rw [k] at hl
    rw [hl, k]
    clear hl k
    go_wp2
    go_end0
    exact ⟨rfl, HK.out⟩

end Go.Proofs.YtlbpjcphhocdkabGreatDoor

namespace Go.Proofs.YtlbpjcphhocdkabGreatDoor
set_option maxRecDepth 1000000
open Go.RowKit Go.Proofs.YtlbpjcphhocdkabGreatDoor.Mod Go.Proofs.YtlbpjcphhocdkabGreatDoor.Pst Go.Proofs.YtlbpjcphhocdkabGreatDoor.Run

/-- A step of a script. -/
structure Stp where
  kind : Int
  st : Int
  a : Int
  b : Int
  c : Int
  s : ByteArray
  t : ByteArray
  f : Bool
def stepV (o : Stp) : Value := .agg #[.int .i64 o.kind, .int .i64 o.st, .int .i64 o.a, .int .i64 o.b, .int .i64 o.c, .string o.s, .string o.t, .bool o.f]
def StepAt (w : World) (g : Nat) (o : Stp) : Prop := w.heap[g]? = some (.cells #[.int .i64 o.kind, .int .i64 o.st, .int .i64 o.a, .int .i64 o.b, .int .i64 o.c, .string o.s, .string o.t, .bool o.f] 80 (0, 0))
theorem StepAt.new (w : World) (o : Stp) : StepAt (w.alloc (.cells #[.int .i64 o.kind, .int .i64 o.st, .int .i64 o.a, .int .i64 o.b, .int .i64 o.c, .string o.s, .string o.t, .bool o.f] 80)) w.heap.size o := heap_alloc_new w _
theorem StepAt.below {w w' : World} {g : Nat} {o : Stp} (h : StepAt w g o) (k : Below w.heap.size w w') : StepAt w' g o := (k.block g (lt_of_block h)).trans h
theorem StepAt.cell {w : World} {g : Nat} {o : Stp} (h : StepAt w g o) : w.cell? ⟨g, 0, none⟩ = some (.int .i64 o.kind) ∧ w.cell? ⟨g, 1, none⟩ = some (.int .i64 o.st) ∧ w.cell? ⟨g, 2, none⟩ = some (.int .i64 o.a) ∧ w.cell? ⟨g, 3, none⟩ = some (.int .i64 o.b) ∧ w.cell? ⟨g, 4, none⟩ = some (.int .i64 o.c) ∧ w.cell? ⟨g, 5, none⟩ = some (.string o.s) ∧ w.cell? ⟨g, 6, none⟩ = some (.string o.t) ∧ w.cell? ⟨g, 7, none⟩ = some (.bool o.f) := by
  unfold StepAt at h; simp [World.cell?, h]

def isBlk (t : List UInt8) : Bool := decide (5 < t.length) && (decide (t.getD 2 0 = 1) || decide (t.getD 2 0 = 2) || (decide (t.getD 2 0 = 16) && decide (t.getD 3 0 = 2)))
def fltK (t : List UInt8) (kind a b : Int) : Int × Int × Int :=
  if kind = 5 then (1, pickI a (t.length + 1), b) else if isBlk t then (2, 3 + pickI a (t.length - 3), 1 + pickI b 255) else (0, 0, 0)
def fltL (x : Ln) (q : Int × Int × Int) : Ln := faultL x q.1 q.2.1 q.2.2
def faultR (r : R) (kind a b : Int) : R :=
  if aloneI r.x < 0 ∨ r.hit = true ∨ kind = 4 then { r with x := faultL r.x 0 0 0 }
  else { r with hit := true, x := fltL r.x (fltK (onOf r.x (aloneI r.x)) kind a b) }

theorem flt_ok (x : Ln) (kind a b : Int) (h : ¬ aloneI x < 0) : faultE x (fltK (onOf x (aloneI x)) kind a b).1 (fltK (onOf x (aloneI x)) kind a b).2.1 (fltK (onOf x (aloneI x)) kind a b).2.2 = 0 ∧ onOf x (aloneI x) ≠ [] := by
  have key : ∀ t : List UInt8, (faultOf t (fltK t kind a b).1 (fltK t kind a b).2.1 (fltK t kind a b).2.2).isSome = true := by
    intro t
    unfold fltK
    split
    · have := pickI_lt a (t.length + 1) (by omega)
      unfold faultOf
      simp only
      rw [if_neg (by decide), if_pos trivial, if_pos (by omega)]
      rfl
    · split
      · rename_i hb
        unfold isBlk at hb
        simp only [Bool.and_eq_true, decide_eq_true_eq] at hb
        have h1 := pickI_lt a (t.length - 3) (by omega)
        have h2 := pickI_lt b 255 (by omega)
        unfold faultOf
        simp only
        rw [if_neg (by decide), if_neg (by decide), if_pos trivial, if_pos (by omega)]
        rfl
      · rfl
  by_cases h0 : x.on0 ≠ [] ∧ x.on1 = []
  · have ha : aloneI x = 0 := by unfold aloneI; rw [if_pos h0]
    rw [ha]
    have ho : onOf x 0 = x.on0 := rfl
    rw [ho]
    refine ⟨?_, h0.1⟩
    unfold faultE
    rw [if_pos h0, key]
    rfl
  · by_cases h1 : x.on0 = [] ∧ x.on1 ≠ []
    · have ha : aloneI x = 1 := by unfold aloneI; rw [if_neg h0, if_pos h1]
      rw [ha]
      have ho : onOf x 1 = x.on1 := rfl
      rw [ho]
      refine ⟨?_, h1.2⟩
      unfold faultE
      rw [if_neg h0, if_pos h1, key]
      rfl
    · exfalso
      apply h
      unfold aloneI
      rw [if_neg h0, if_neg h1]
      decide

def Tf6  (a : Act) : Prop := a.defers = [] ∧ a.tmps = List.toArray (a.tmps.getD 0 undef :: a.tmps.getD 1 undef :: a.tmps.getD 2 undef :: a.tmps.getD 3 undef :: a.tmps.getD 4 undef :: a.tmps.getD 5 undef :: .int .i64 0 :: a.tmps.getD 7 undef :: a.tmps.getD 8 undef :: a.tmps.getD 9 undef :: a.tmps.getD 10 undef :: a.tmps.getD 11 undef :: a.tmps.getD 12 undef :: a.tmps.getD 13 undef :: a.tmps.getD 14 undef :: a.tmps.getD 15 undef :: a.tmps.getD 16 undef :: a.tmps.getD 17 undef :: a.tmps.getD 18 undef :: a.tmps.getD 19 undef :: a.tmps.getD 20 undef :: a.tmps.getD 21 undef :: a.tmps.getD 22 undef :: a.tmps.getD 23 undef :: a.tmps.getD 24 undef :: a.tmps.getD 25 undef :: a.tmps.getD 26 undef :: a.tmps.getD 27 undef :: a.tmps.getD 28 undef :: a.tmps.getD 29 undef :: a.tmps.getD 30 undef :: a.tmps.getD 31 undef :: a.tmps.getD 32 undef :: a.tmps.getD 33 undef :: a.tmps.getD 34 undef :: a.tmps.getD 35 undef :: a.tmps.getD 36 undef :: a.tmps.getD 37 undef :: a.tmps.getD 38 undef :: a.tmps.getD 39 undef :: a.tmps.getD 40 undef :: a.tmps.getD 41 undef :: a.tmps.getD 42 undef :: a.tmps.getD 43 undef :: a.tmps.getD 44 undef :: a.tmps.getD 45 undef :: a.tmps.getD 46 undef :: a.tmps.getD 47 undef :: a.tmps.getD 48 undef :: a.tmps.getD 49 undef :: a.tmps.getD 50 undef :: a.tmps.getD 51 undef :: a.tmps.getD 52 undef :: a.tmps.getD 53 undef :: a.tmps.getD 54 undef :: a.tmps.getD 55 undef :: a.tmps.getD 56 undef :: a.tmps.getD 57 undef :: a.tmps.getD 58 undef :: a.tmps.getD 59 undef :: a.tmps.getD 60 undef :: a.tmps.getD 61 undef :: a.tmps.getD 62 undef :: a.tmps.getD 63 undef :: a.tmps.getD 64 undef :: a.tmps.getD 65 undef :: a.tmps.getD 66 undef :: a.tmps.getD 67 undef :: a.tmps.getD 68 undef :: a.tmps.getD 69 undef :: a.tmps.getD 70 undef :: a.tmps.getD 71 undef :: a.tmps.getD 72 undef :: a.tmps.getD 73 undef :: a.tmps.getD 74 undef :: a.tmps.getD 75 undef :: a.tmps.getD 76 undef :: a.tmps.getD 77 undef :: a.tmps.getD 78 undef :: a.tmps.getD 79 undef :: a.tmps.getD 80 undef :: a.tmps.getD 81 undef :: a.tmps.getD 82 undef :: a.tmps.getD 83 undef :: a.tmps.getD 84 undef :: a.tmps.getD 85 undef :: a.tmps.getD 86 undef :: a.tmps.getD 87 undef :: a.tmps.getD 88 undef :: a.tmps.getD 89 undef :: a.tmps.getD 90 undef :: a.tmps.getD 91 undef :: a.tmps.getD 92 undef :: a.tmps.getD 93 undef :: a.tmps.getD 94 undef :: a.tmps.getD 95 undef :: a.tmps.getD 96 undef :: a.tmps.getD 97 undef :: a.tmps.getD 98 undef :: a.tmps.getD 99 undef :: [])
theorem Tf6.use  {a : Act} (h : Tf6  a) : ∃ u : Nat → Value, a = { tmps := List.toArray (u 0 :: u 1 :: u 2 :: u 3 :: u 4 :: u 5 :: .int .i64 0 :: u 7 :: u 8 :: u 9 :: u 10 :: u 11 :: u 12 :: u 13 :: u 14 :: u 15 :: u 16 :: u 17 :: u 18 :: u 19 :: u 20 :: u 21 :: u 22 :: u 23 :: u 24 :: u 25 :: u 26 :: u 27 :: u 28 :: u 29 :: u 30 :: u 31 :: u 32 :: u 33 :: u 34 :: u 35 :: u 36 :: u 37 :: u 38 :: u 39 :: u 40 :: u 41 :: u 42 :: u 43 :: u 44 :: u 45 :: u 46 :: u 47 :: u 48 :: u 49 :: u 50 :: u 51 :: u 52 :: u 53 :: u 54 :: u 55 :: u 56 :: u 57 :: u 58 :: u 59 :: u 60 :: u 61 :: u 62 :: u 63 :: u 64 :: u 65 :: u 66 :: u 67 :: u 68 :: u 69 :: u 70 :: u 71 :: u 72 :: u 73 :: u 74 :: u 75 :: u 76 :: u 77 :: u 78 :: u 79 :: u 80 :: u 81 :: u 82 :: u 83 :: u 84 :: u 85 :: u 86 :: u 87 :: u 88 :: u 89 :: u 90 :: u 91 :: u 92 :: u 93 :: u 94 :: u 95 :: u 96 :: u 97 :: u 98 :: u 99 :: []), defers := [] } := ⟨fun i => a.tmps.getD i undef, by obtain ⟨h1, h2⟩ := h; cases a; simp only at h1 h2; subst h1; exact congrArg (fun t => ({ tmps := t, defers := [] } : Act)) h2⟩

/-- What a fault's statement leaves. -/
def FltR (w : World) (S : Nat → Prop) (A : RA) (r' : R) (a : Act) (W : World) : Prop := Tf6 a ∧ RunAt W (Plus S w) A r' ∧ Fr S w W
theorem flt_cells {W3 W : World} {b g xb : Nat} {va vb : Int} (h0 : W3.cell? ⟨b, 0, none⟩ = some (.pointer (some ⟨xb, 0, none⟩))) (h2 : W3.cell? ⟨g, 2, none⟩ = some (.int .i64 va)) (h3 : W3.cell? ⟨g, 3, none⟩ = some (.int .i64 vb)) (k : Below W3.heap.size W3 W) :
    Below W3.heap.size W3 W ∧ W.cell? ⟨b, 0, none⟩ = some (.pointer (some ⟨xb, 0, none⟩)) ∧ W.cell? ⟨g, 2, none⟩ = some (.int .i64 va) ∧ W.cell? ⟨g, 3, none⟩ = some (.int .i64 vb) :=
  ⟨k, (k.cell (World.block_lt_of_cell? _ _ h0)).trans h0, (k.cell (World.block_lt_of_cell? _ _ h2)).trans h2, (k.cell (World.block_lt_of_cell? _ _ h3)).trans h3⟩

theorem byte_ne {x c : UInt8} (h : ¬ x = c) {n : Int} (hn : (c.toNat : Int) = n) : ((x.toNat : Int) == n) = false := by
  rw [beq_eq_false_iff_ne]
  intro k
  apply h
  rw [← UInt8.toNat_inj]
  omega
theorem byte_getD {t : List UInt8} {s : ByteArray} (h : (⟨t.toArray⟩ : ByteArray) = s) (k : Nat) (hk : k < s.size) : t.getD k 0 = s[k] := by
  subst h
  have hk' : k < t.length := hk
  rw [List.getD, List.getElem?_eq_getElem hk']
  rfl
set_option maxHeartbeats 4000000 in
theorem fault_run (S : Nat → Prop) (A : RA) (r : R) (o : Stp) (w : World) (h : RunAt w S A r) (hnS : ¬ S w.heap.size) (hg : LGood r.x) (ha0 : -9223372036854775808 ≤ o.a) (ha1 : o.a ≤ 9223372036854775807) (hb0 : -9223372036854775808 ≤ o.b) (hb1 : o.b ≤ 9223372036854775807) :
    Calls Tryz.prog 35 #[.pointer (some ⟨A.rb, 0, none⟩), stepV o] w fun e w' => e = .returned (.tuple #[]) ∧ RunAt w' (Plus S w) A (faultR r o.kind o.a o.b) ∧ Fr S w w' := by
  have hbel := (Below.refl w.heap.size w).alloc (Nat.le_refl _) (.cells #[.int .i64 o.kind, .int .i64 o.st, .int .i64 o.a, .int .i64 o.b, .int .i64 o.c, .string o.s, .string o.t, .bool o.f] 80)
  have HB := hide hbel
  have X0 := StepAt.new w o
  have HH := hide h
  have HG := hide hg
  have hrb := h.lt.1
  unfold stepV
  clear h hg
  go_enter Tryz.func35, Tryz.ntmps35
  go_wp2_with fail
  generalize w.alloc (.cells #[.int .i64 o.kind, .int .i64 o.st, .int .i64 o.a, .int .i64 o.b, .int .i64 o.c, .string o.s, .string o.t, .bool o.f] 80) = W0 at *
  refine (alone_run S A r _ (HH.out.below HB.out)).mono ?_
  rintro e w1 ⟨rfl, hb1'⟩
  have HB1 := hide (below_step HB.out hb1')
  have X1 := X0.below hb1'
  have HX1 := hide X1
  have h1 := HH.out.below HB1.out
  have hlt0 := lt_of_block X1
  obtain ⟨o0, o1, o2, o3, o4, o5, o6, o7⟩ := X1.cell
  obtain ⟨c0, _, _, c13, _, _, _, _, _, _, fz⟩ := h1.cells
  have f13 := fz 13
  have H1 := hide h1
  have hrb1 := h1.lt.1
  clear hb1' hbel X0 X1 h1 fz
  by_cases hc : aloneI r.x < 0 ∨ r.hit = true ∨ o.kind = 4
  · have HR : Hid (faultR r o.kind o.a o.b = { r with x := faultL r.x 0 0 0 }) := by unfold Hid faultR; rw [if_pos hc]
    have hcc : aloneI r.x < 0 ∨ (¬ aloneI r.x < 0 ∧ r.hit = true) ∨ (¬ aloneI r.x < 0 ∧ r.hit = false ∧ o.kind = 4) := by
      rcases hc with k | k | k
      · exact Or.inl k
      · by_cases ka : aloneI r.x < 0
        · exact Or.inl ka
        · exact Or.inr (Or.inl ⟨ka, k⟩)
      · by_cases ka : aloneI r.x < 0
        · exact Or.inl ka
        · cases kh : r.hit
          · exact Or.inr (Or.inr ⟨ka, rfl, k⟩)
          · exact Or.inr (Or.inl ⟨ka, rfl⟩)
    clear hc
    rcases hcc with k | ⟨k, k2⟩ | ⟨k, k2, k3⟩
    · generalize aloneI r.x = i at *
      go_wp2_with fail
      refine (lose_run S A r _ H1.out HG.out).mono ?_
      rintro e w2 ⟨rfl, h2, hf2⟩
      have HK : Hid (RunAt w2 (Plus S w) A (faultR r o.kind o.a o.b) ∧ Fr S w w2) := by rw [HR.out]; exact ⟨h2.mono (Plus.of HB1.out.size), (Fr.of_below HB1.out).trans hf2 (fun _ _ k => k)⟩
      clear h2 hf2
      go_wp2
      refine bodyPost_ret (results_none rfl _ _ _) rfl ?_
      exact ⟨rfl, HK.out⟩
    · rw [k2] at c13
      generalize aloneI r.x = i at *
      go_wp2_with fail
      refine (lose_run S A r _ H1.out HG.out).mono ?_
      rintro e w2 ⟨rfl, h2, hf2⟩
      have HK : Hid (RunAt w2 (Plus S w) A (faultR r o.kind o.a o.b) ∧ Fr S w w2) := by rw [HR.out]; exact ⟨h2.mono (Plus.of HB1.out.size), (Fr.of_below HB1.out).trans hf2 (fun _ _ k => k)⟩
      clear h2 hf2
      go_wp2
      refine bodyPost_ret (results_none rfl _ _ _) rfl ?_
      exact ⟨rfl, HK.out⟩
    · rw [k2] at c13
      rw [k3] at o0
      generalize aloneI r.x = i at *
      go_wp2_with fail
      refine (lose_run S A r _ H1.out HG.out).mono ?_
      rintro e w2 ⟨rfl, h2, hf2⟩
      have HK : Hid (RunAt w2 (Plus S w) A (faultR r o.kind o.a o.b) ∧ Fr S w w2) := by rw [HR.out]; exact ⟨h2.mono (Plus.of HB1.out.size), (Fr.of_below HB1.out).trans hf2 (fun _ _ k => k)⟩
      clear h2 hf2
      go_wp2
      refine bodyPost_ret (results_none rfl _ _ _) rfl ?_
      exact ⟨rfl, HK.out⟩
  · have HR : Hid (faultR r o.kind o.a o.b = { r with hit := true, x := fltL r.x (fltK (onOf r.x (aloneI r.x)) o.kind o.a o.b) }) := by unfold Hid faultR; rw [if_neg hc]
    have ki : ¬ aloneI r.x < 0 := fun k => hc (Or.inl k)
    have kh : r.hit = false := by cases k : r.hit; rfl; exact absurd (Or.inr (Or.inl k)) hc
    have kk : ¬ o.kind = 4 := fun k => hc (Or.inr (Or.inr k))
    have dk : (o.kind == 4) = false := by simp [kk]
    obtain ⟨hE, hne⟩ := flt_ok r.x o.kind o.a o.b ki
    have HE := hide hE
    have hon : (onOf r.x (aloneI r.x)).length ≤ 320 := by
      rcases alone_cases r.x with k | k | k <;> rw [k]
      · exact HG.out.o0
      · exact HG.out.o1
      · simp [onOf]
    have hS13 := hide (fun (W : World) (hW : RunAt W S A r) (hf : Fr S w W) => hW.setFlag hf 13 (.bool true) { r with hit := true } rfl rfl rfl rfl)
    rw [kh] at c13
    generalize aloneI r.x = i at *
    generalize ht : onOf r.x i = t at *
    have hts : (⟨t.toArray⟩ : ByteArray).size = t.length := rfl
    clear hc hE
    go_wp2_with fail
    refine (onLine_run S A r i _ H1.out).mono ?_
    rintro e w2 ⟨rfl, hb2⟩
    rw [ht]
    have h2 := H1.out.below hb2
    have HX2 := hide (HX1.out.below hb2)
    have HB2 := hide (below_step HB1.out hb2)
    obtain ⟨d0, _, _, d13, _, _, _, _, _, _, fz2⟩ := h2.cells
    have g13 := fz2 13
    rw [kh] at d13
    obtain ⟨p0, p1, p2, p3, p4, p5, p6, p7⟩ := HX2.out.cell
    have hne2 : A.rb ≠ w.heap.size := by omega
    have H2 := hide h2
    have hrb2 := h2.lt.1
    have hlt2 := lt_of_block HX2.out
    have K3 : Hid (RunAt (w2.setCell ⟨A.rb, 13, none⟩ (.bool true)) S A { r with hit := true } ∧ Fr S w (w2.setCell ⟨A.rb, 13, none⟩ (.bool true)) ∧ StepAt (w2.setCell ⟨A.rb, 13, none⟩ (.bool true)) w.heap.size o) := ⟨(hS13.out w2 h2 (Fr.of_below HB2.out)).1, (hS13.out w2 h2 (Fr.of_below HB2.out)).2, (Below.heap_setCell _ _ _ _ (fun e => hne2 e.symm)).trans HX2.out⟩
    clear hb2 h2 fz2 c0 c13 f13 o0 o1 o2 o3 o4 o5 o6 o7 hS13 kh
    by_cases k5 : o.kind = 5
    · have HF5 : Hid (fltK t o.kind o.a o.b = (1, pickI o.a ((t.length : Int) + 1), o.b)) := by unfold Hid fltK; rw [if_pos k5]
      rw [HF5.out] at HE HR
      rw [k5] at p0
      generalize hss : (⟨t.toArray⟩ : ByteArray) = ts at *
      have hln : ts.size ≤ 320 := by rw [hts]; exact hon
      rw [← hts] at HE HR
      have HTS := hide hts
      clear hts hon hss ht hne k5 kk dk
      go_wp2_with fail
      refine wp_at (fun W => RunAt W S A { r with hit := true } ∧ Fr S w W ∧ StepAt W w.heap.size o) K3.out ?_
      rintro W3 ⟨h3, hf3, x3⟩
      obtain ⟨e0, _⟩ := h3.cells
      obtain ⟨_, _, q2, q3, _⟩ := x3.cell
      have H3 := hide h3
      have HF3 := hide hf3
      have hW3 := HF3.out.size
      have hltW : w.heap.size < W3.heap.size := lt_of_block x3
      have HnS : Hid (¬ S w.heap.size) := hnS
      clear h3 hf3 x3 K3 p0 p1 p2 p3 p4 p5 p6 p7 d0 d13 g13
      have HE5 : Hid (faultE r.x 1 (pickI o.a ((ts.size : Int) + 1)) o.b = 0) := HE.out
      have wr : IntKind.i64.wrap ((ts.size : Int) + 1) = (ts.size : Int) + 1 := wrap_in _ (by omega) (by omega)
      refine region_only (FltR w S A (faultR r o.kind o.a o.b)) ?_ ?_
      · go_region_held3 (fun W => W.cell? ⟨A.rb, 0, none⟩ = some (.pointer (some ⟨A.xb, 0, none⟩)) ∧ W.cell? ⟨w.heap.size, 2, none⟩ = some (.int .i64 o.a) ∧ W.cell? ⟨w.heap.size, 3, none⟩ = some (.int .i64 o.b)) ((first | exact ⟨e0, q2, q3⟩ | exact ⟨h4.cells.1, (World.cell?_of_block (hf4.block _ hltW HnS.out)).trans q2, (World.cell?_of_block (hf4.block _ hltW HnS.out)).trans q3⟩))
          (first | (go_at_call 16; refine (pick_any o.a ((ts.size : Int) + 1) _ ha0 ha1 (by omega) (by omega)).mono ?_; rintro e w4 ⟨rfl, hw4⟩; obtain rfl := hw4.symm) | (go_at_call 36; refine (faulted_run S A { r with hit := true } _ _ _ _ (H3.out.below ?_) HG.out).mono ?_; (repeat' (with_reducible (first | apply Below.drew | apply below_drewN | exact Below.refl _ _))); rintro e w4 ⟨rfl, h4, hf4⟩; rw [HE5.out]))
        exact ⟨⟨rfl, rfl⟩, by rw [HR.out]; exact h4.mono (Plus.of hW3), HF3.out.trans (Fr.mk hf4.os hf4.tape hf4.output hf4.size hf4.block) (fun _ _ k => k)⟩
      · rintro a' W4 ⟨htk, h4, hf4⟩
        obtain ⟨u, rfl⟩ := htk.use
        have HK := hide (And.intro h4 hf4)
        clear htk h4 hf4
        go_wp2
        go_end0
        exact ⟨rfl, HK.out⟩
    · have d5 : (o.kind == 5) = false := by simp [k5]
      generalize hss : (⟨t.toArray⟩ : ByteArray) = ts at *
      have hln : ts.size ≤ 320 := by rw [hts]; exact hon
      by_cases h5 : 5 < ts.size
      · have i2 : (2 : Int) < (ts.size : Int) := by omega
        have i3 : (3 : Int) < (ts.size : Int) := by omega
        have j2 : 2 < ts.size := by omega
        have j3 : 3 < ts.size := by omega
        have i5 : (5 : Int) < (ts.size : Int) := by omega
        have hg2 : t.getD 2 0 = ts[2] := byte_getD hss 2 j2
        have hg3 : t.getD 3 0 = ts[3] := byte_getD hss 3 j3
        by_cases b1 : ts[2] = 1
        · have HF2 : Hid (fltK t o.kind o.a o.b = (2, 3 + pickI o.a ((t.length : Int) - 3), 1 + pickI o.b 255)) := by unfold Hid fltK; rw [if_neg k5, if_pos]; unfold isBlk; rw [hg2, hg3]; simp [b1]; omega
          rw [HF2.out, ← hts] at HE HR
          have HE5 : Hid (faultE r.x 2 (3 + pickI o.a ((ts.size : Int) - 3)) (1 + pickI o.b 255) = 0) := HE.out
          have pl := pickI_lt o.a ((ts.size : Int) - 3) (by omega)
          have pl2 := pickI_lt o.b 255 (by omega)
          have c21 : (ts[2].toNat : Int) = 1 := by rw [b1]; rfl
          clear hts hon hss ht hne k5 kk dk hg2 hg3 b1
          go_wp2_with fail
          refine wp_at (fun W => RunAt W S A { r with hit := true } ∧ Fr S w W ∧ StepAt W w.heap.size o) K3.out ?_
          rintro W3 ⟨h3, hf3, x3⟩
          obtain ⟨e0, _⟩ := h3.cells
          obtain ⟨_, _, q2, q3, _⟩ := x3.cell
          have H3 := hide h3
          have HF3 := hide hf3
          have hW3 := HF3.out.size
          have hltW : w.heap.size < W3.heap.size := lt_of_block x3
          have HnS : Hid (¬ S w.heap.size) := hnS
          clear h3 hf3 x3 K3 p0 p1 p2 p3 p4 p5 p6 p7 d0 d13 g13
          have wr : IntKind.i64.wrap ((ts.size : Int) - 3) = (ts.size : Int) - 3 := wrap_in _ (by omega) (by omega)
          have wr2 : IntKind.i64.wrap (3 + pickI o.a ((ts.size : Int) - 3)) = 3 + pickI o.a ((ts.size : Int) - 3) := wrap_in _ (by omega) (by omega)
          have wr3 : IntKind.i64.wrap (1 + pickI o.b 255) = 1 + pickI o.b 255 := wrap_in _ (by omega) (by omega)
          refine region_only (FltR w S A (faultR r o.kind o.a o.b)) ?_ ?_
          · go_region_held3 (fun W => W.cell? ⟨A.rb, 0, none⟩ = some (.pointer (some ⟨A.xb, 0, none⟩)) ∧ W.cell? ⟨w.heap.size, 2, none⟩ = some (.int .i64 o.a) ∧ W.cell? ⟨w.heap.size, 3, none⟩ = some (.int .i64 o.b)) ((first | exact ⟨e0, q2, q3⟩ | exact ⟨h4.cells.1, (World.cell?_of_block (hf4.block _ hltW HnS.out)).trans q2, (World.cell?_of_block (hf4.block _ hltW HnS.out)).trans q3⟩))
              (first | (go_at_call 16; refine (pick_any _ _ _ (by assumption) (by assumption) (by omega) (by omega)).mono ?_; rintro e w4 ⟨rfl, hw4⟩; obtain rfl := hw4.symm) | (go_at_call 36; refine (faulted_run S A { r with hit := true } _ _ _ _ (H3.out.below ?_) HG.out).mono ?_; (repeat' (with_reducible (first | apply Below.drew | apply below_drewN | exact Below.refl _ _))); rintro e w4 ⟨rfl, h4, hf4⟩; rw [HE5.out]))
            all_goals exact ⟨⟨rfl, rfl⟩, by rw [HR.out]; exact h4.mono (Plus.of hW3), HF3.out.trans (Fr.mk hf4.os hf4.tape hf4.output hf4.size hf4.block) (fun _ _ k => k)⟩
          · rintro a' W4 ⟨htk, h4, hf4⟩
            obtain ⟨u, rfl⟩ := htk.use
            have HK := hide (And.intro h4 hf4)
            clear htk h4 hf4
            go_wp2
            go_end0
            exact ⟨rfl, HK.out⟩
        · by_cases b2 : ts[2] = 2
          · have HF2 : Hid (fltK t o.kind o.a o.b = (2, 3 + pickI o.a ((t.length : Int) - 3), 1 + pickI o.b 255)) := by unfold Hid fltK; rw [if_neg k5, if_pos]; unfold isBlk; rw [hg2, hg3]; simp [b2]; omega
            rw [HF2.out, ← hts] at HE HR
            have HE5 : Hid (faultE r.x 2 (3 + pickI o.a ((ts.size : Int) - 3)) (1 + pickI o.b 255) = 0) := HE.out
            have pl := pickI_lt o.a ((ts.size : Int) - 3) (by omega)
            have pl2 := pickI_lt o.b 255 (by omega)
            have c22 : (ts[2].toNat : Int) = 2 := by rw [b2]; rfl
            clear hts hon hss ht hne k5 kk dk hg2 hg3 b1 b2
            go_wp2_with fail
            refine wp_at (fun W => RunAt W S A { r with hit := true } ∧ Fr S w W ∧ StepAt W w.heap.size o) K3.out ?_
            rintro W3 ⟨h3, hf3, x3⟩
            obtain ⟨e0, _⟩ := h3.cells
            obtain ⟨_, _, q2, q3, _⟩ := x3.cell
            have H3 := hide h3
            have HF3 := hide hf3
            have hW3 := HF3.out.size
            have hltW : w.heap.size < W3.heap.size := lt_of_block x3
            have HnS : Hid (¬ S w.heap.size) := hnS
            clear h3 hf3 x3 K3 p0 p1 p2 p3 p4 p5 p6 p7 d0 d13 g13
            have wr : IntKind.i64.wrap ((ts.size : Int) - 3) = (ts.size : Int) - 3 := wrap_in _ (by omega) (by omega)
            have wr2 : IntKind.i64.wrap (3 + pickI o.a ((ts.size : Int) - 3)) = 3 + pickI o.a ((ts.size : Int) - 3) := wrap_in _ (by omega) (by omega)
            have wr3 : IntKind.i64.wrap (1 + pickI o.b 255) = 1 + pickI o.b 255 := wrap_in _ (by omega) (by omega)
            refine region_only (FltR w S A (faultR r o.kind o.a o.b)) ?_ ?_
            · go_region_held3 (fun W => W.cell? ⟨A.rb, 0, none⟩ = some (.pointer (some ⟨A.xb, 0, none⟩)) ∧ W.cell? ⟨w.heap.size, 2, none⟩ = some (.int .i64 o.a) ∧ W.cell? ⟨w.heap.size, 3, none⟩ = some (.int .i64 o.b)) ((first | exact ⟨e0, q2, q3⟩ | exact ⟨h4.cells.1, (World.cell?_of_block (hf4.block _ hltW HnS.out)).trans q2, (World.cell?_of_block (hf4.block _ hltW HnS.out)).trans q3⟩))
                (first | (go_at_call 16; refine (pick_any _ _ _ (by assumption) (by assumption) (by omega) (by omega)).mono ?_; rintro e w4 ⟨rfl, hw4⟩; obtain rfl := hw4.symm) | (go_at_call 36; refine (faulted_run S A { r with hit := true } _ _ _ _ (H3.out.below ?_) HG.out).mono ?_; (repeat' (with_reducible (first | apply Below.drew | apply below_drewN | exact Below.refl _ _))); rintro e w4 ⟨rfl, h4, hf4⟩; rw [HE5.out]))
              all_goals exact ⟨⟨rfl, rfl⟩, by rw [HR.out]; exact h4.mono (Plus.of hW3), HF3.out.trans (Fr.mk hf4.os hf4.tape hf4.output hf4.size hf4.block) (fun _ _ k => k)⟩
            · rintro a' W4 ⟨htk, h4, hf4⟩
              obtain ⟨u, rfl⟩ := htk.use
              have HK := hide (And.intro h4 hf4)
              clear htk h4 hf4
              go_wp2
              go_end0
              exact ⟨rfl, HK.out⟩
          · by_cases b16 : ts[2] = 16
            · by_cases b3 : ts[3] = 2
              · have HF2 : Hid (fltK t o.kind o.a o.b = (2, 3 + pickI o.a ((t.length : Int) - 3), 1 + pickI o.b 255)) := by unfold Hid fltK; rw [if_neg k5, if_pos]; unfold isBlk; rw [hg2, hg3]; simp [b16, b3]; omega
                rw [HF2.out, ← hts] at HE HR
                have HE5 : Hid (faultE r.x 2 (3 + pickI o.a ((ts.size : Int) - 3)) (1 + pickI o.b 255) = 0) := HE.out
                have pl := pickI_lt o.a ((ts.size : Int) - 3) (by omega)
                have pl2 := pickI_lt o.b 255 (by omega)
                have c216 : (ts[2].toNat : Int) = 16 := by rw [b16]; rfl
                have c32 : (ts[3].toNat : Int) = 2 := by rw [b3]; rfl
                clear hts hon hss ht hne k5 kk dk hg2 hg3 b1 b2 b16 b3
                go_wp2_with fail
                refine wp_at (fun W => RunAt W S A { r with hit := true } ∧ Fr S w W ∧ StepAt W w.heap.size o) K3.out ?_
                rintro W3 ⟨h3, hf3, x3⟩
                obtain ⟨e0, _⟩ := h3.cells
                obtain ⟨_, _, q2, q3, _⟩ := x3.cell
                have H3 := hide h3
                have HF3 := hide hf3
                have hW3 := HF3.out.size
                have hltW : w.heap.size < W3.heap.size := lt_of_block x3
                have HnS : Hid (¬ S w.heap.size) := hnS
                clear h3 hf3 x3 K3 p0 p1 p2 p3 p4 p5 p6 p7 d0 d13 g13
                have wr : IntKind.i64.wrap ((ts.size : Int) - 3) = (ts.size : Int) - 3 := wrap_in _ (by omega) (by omega)
                have wr2 : IntKind.i64.wrap (3 + pickI o.a ((ts.size : Int) - 3)) = 3 + pickI o.a ((ts.size : Int) - 3) := wrap_in _ (by omega) (by omega)
                have wr3 : IntKind.i64.wrap (1 + pickI o.b 255) = 1 + pickI o.b 255 := wrap_in _ (by omega) (by omega)
                refine region_only (FltR w S A (faultR r o.kind o.a o.b)) ?_ ?_
                · go_region_held3 (fun W => W.cell? ⟨A.rb, 0, none⟩ = some (.pointer (some ⟨A.xb, 0, none⟩)) ∧ W.cell? ⟨w.heap.size, 2, none⟩ = some (.int .i64 o.a) ∧ W.cell? ⟨w.heap.size, 3, none⟩ = some (.int .i64 o.b)) ((first | exact ⟨e0, q2, q3⟩ | exact ⟨h4.cells.1, (World.cell?_of_block (hf4.block _ hltW HnS.out)).trans q2, (World.cell?_of_block (hf4.block _ hltW HnS.out)).trans q3⟩))
                    (first | (go_at_call 16; refine (pick_any _ _ _ (by assumption) (by assumption) (by omega) (by omega)).mono ?_; rintro e w4 ⟨rfl, hw4⟩; obtain rfl := hw4.symm) | (go_at_call 36; refine (faulted_run S A { r with hit := true } _ _ _ _ (H3.out.below ?_) HG.out).mono ?_; (repeat' (with_reducible (first | apply Below.drew | apply below_drewN | exact Below.refl _ _))); rintro e w4 ⟨rfl, h4, hf4⟩; rw [HE5.out]))
                  all_goals exact ⟨⟨rfl, rfl⟩, by rw [HR.out]; exact h4.mono (Plus.of hW3), HF3.out.trans (Fr.mk hf4.os hf4.tape hf4.output hf4.size hf4.block) (fun _ _ k => k)⟩
                · rintro a' W4 ⟨htk, h4, hf4⟩
                  obtain ⟨u, rfl⟩ := htk.use
                  have HK := hide (And.intro h4 hf4)
                  clear htk h4 hf4
                  go_wp2
                  go_end0
                  exact ⟨rfl, HK.out⟩
              · have HF0 : Hid (fltK t o.kind o.a o.b = (0, 0, 0)) := by unfold Hid fltK isBlk; rw [if_neg k5, if_neg]; rw [hg2, hg3]; simp [b16, b3]
                rw [HF0.out] at HE HR
                have HE5 : Hid (faultE r.x 0 0 0 = 0) := HE.out
                have c216 : (ts[2].toNat : Int) = 16 := by rw [b16]; rfl
                have c32 : ((ts[3].toNat : Int) == 2) = false := byte_ne b3 rfl
                clear hts hon hss ht hne k5 kk dk hg2 hg3 b1 b2 b16 b3
                have hrb3 := K3.out.1.lt.1
                obtain ⟨e0, _⟩ := K3.out.1.cells
                go_wp2_with fail
                refine (faulted_run S A { r with hit := true } 0 0 0 _ K3.out.1 HG.out).mono ?_
                rintro e w4 ⟨rfl, h4, hf4⟩
                rw [HE5.out]
                have HK : Hid (RunAt w4 (Plus S w) A (faultR r o.kind o.a o.b) ∧ Fr S w w4) := ⟨by rw [HR.out]; exact h4.mono (Plus.of K3.out.2.1.size), K3.out.2.1.trans hf4 (fun _ _ k => k)⟩
                clear h4 hf4
                go_wp2
                go_end0
                exact ⟨rfl, HK.out⟩
            · have HF0 : Hid (fltK t o.kind o.a o.b = (0, 0, 0)) := by unfold Hid fltK isBlk; rw [if_neg k5, if_neg]; rw [hg2, hg3]; simp [b1, b2, b16]
              rw [HF0.out] at HE HR
              have HE5 : Hid (faultE r.x 0 0 0 = 0) := HE.out
              have c21 : ((ts[2].toNat : Int) == 1) = false := byte_ne b1 rfl
              have c22 : ((ts[2].toNat : Int) == 2) = false := byte_ne b2 rfl
              have c216 : ((ts[2].toNat : Int) == 16) = false := byte_ne b16 rfl
              clear hts hon hss ht hne k5 kk dk hg2 hg3 b1 b2 b16
              have hrb3 := K3.out.1.lt.1
              obtain ⟨e0, _⟩ := K3.out.1.cells
              go_wp2_with fail
              refine (faulted_run S A { r with hit := true } 0 0 0 _ K3.out.1 HG.out).mono ?_
              rintro e w4 ⟨rfl, h4, hf4⟩
              rw [HE5.out]
              have HK : Hid (RunAt w4 (Plus S w) A (faultR r o.kind o.a o.b) ∧ Fr S w w4) := ⟨by rw [HR.out]; exact h4.mono (Plus.of K3.out.2.1.size), K3.out.2.1.trans hf4 (fun _ _ k => k)⟩
              clear h4 hf4
              go_wp2
              go_end0
              exact ⟨rfl, HK.out⟩
      · have HF0 : Hid (fltK t o.kind o.a o.b = (0, 0, 0)) := by unfold Hid fltK isBlk; rw [if_neg k5, if_neg]; simp; omega
        rw [HF0.out] at HE HR
        have HE5 : Hid (faultE r.x 0 0 0 = 0) := HE.out
        have n5 : ¬ (5 : Int) < (ts.size : Int) := by omega
        have m5 : decide ((5 : Int) < (ts.size : Int)) = false := by simp only [decide_eq_false_iff_not]; exact n5
        clear hts hon hss ht hne k5 kk dk h5
        have hrb3 := K3.out.1.lt.1
        obtain ⟨e0, _⟩ := K3.out.1.cells
        go_wp2_with fail
        refine (faulted_run S A { r with hit := true } 0 0 0 _ K3.out.1 HG.out).mono ?_
        rintro e w4 ⟨rfl, h4, hf4⟩
        rw [HE5.out]
        have HK : Hid (RunAt w4 (Plus S w) A (faultR r o.kind o.a o.b) ∧ Fr S w w4) := ⟨by rw [HR.out]; exact h4.mono (Plus.of K3.out.2.1.size), K3.out.2.1.trans hf4 (fun _ _ k => k)⟩
        clear h4 hf4
        go_wp2
        go_end0
        exact ⟨rfl, HK.out⟩

end Go.Proofs.YtlbpjcphhocdkabGreatDoor
