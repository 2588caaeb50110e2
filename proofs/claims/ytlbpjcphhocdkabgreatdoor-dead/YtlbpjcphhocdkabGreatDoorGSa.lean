/-The station's small functions. The station's waits, short transmissions, and how it becomes Idle. The station answers; it bids. The station's message: which it is, its number, how it leaves. -/
import Derived.Test.YtlbpjcphhocdkabGreatDoorGLm
namespace Go.Proofs.YtlbpjcphhocdkabGreatDoor
open Go.RowKit Go.Proofs.YtlbpjcphhocdkabGreatDoor.Mod Go.Proofs.YtlbpjcphhocdkabGreatDoor.Pst

theorem oneLess_any (n : Nat) (w : World) (hn : n ≤ 1000000000) :
    Calls Tryz.prog 56 #[.int .i64 n] w fun e w' => e = .returned (.int .i64 (n - 1 : Nat)) ∧ w' = w := by
  rcases Nat.eq_zero_or_pos n with rfl | h
  · go_enter Tryz.func56, Tryz.ntmps56
    go_wp2
    go_ret
    exact ⟨rfl, rfl⟩
  · have h1 : (0 : Int) < (n : Int) := by omega
    have HE : Hid (((n - 1 : Nat) : Int) = (n : Int) - 1) := by unfold Hid; omega
    rw [HE.out]
    go_enter Tryz.func56, Tryz.ntmps56
    go_wp2
    go_ret
    exact ⟨rfl, rfl⟩

theorem expectedYes_any (n : Nat) (w : World) (hn : n ≤ 1000000000) :
    Calls Tryz.prog 79 #[.int .i64 n] w fun e w' => e = .returned (.int .i64 (expectedYes n)) ∧ w' = w := by
  unfold expectedYes
  by_cases h : n % 2 = 0
  · have h' : (n : Int) % 2 = 0 := by omega
    have h'' : Int.tmod (n : Int) 2 = 0 := by rw [Int.tmod_eq_emod_of_nonneg (by omega)]; exact h'
    rw [if_pos h]
    go_enter Tryz.func79, Tryz.ntmps79
    go_wp2
    go_ret
    exact ⟨rfl, rfl⟩
  · have h' : (n : Int) % 2 = 1 := by omega
    have h'' : Int.tmod (n : Int) 2 = 1 := by rw [Int.tmod_eq_emod_of_nonneg (by omega)]; exact h'
    rw [if_neg h]
    go_enter Tryz.func79, Tryz.ntmps79
    go_wp2
    go_ret
    exact ⟨rfl, rfl⟩

theorem otherYes_any (n : Nat) (w : World) (_hn : n ≤ 1000000000) :
    Calls Tryz.prog 105 #[.int .i64 n] w fun e w' => e = .returned (.int .i64 (otherYes n)) ∧ w' = w := by
  unfold otherYes
  by_cases h : n = 7
  · subst h
    go_enter Tryz.func105, Tryz.ntmps105
    go_wp2
    go_ret
    exact ⟨rfl, rfl⟩
  · have h' : ¬ (n : Int) = 7 := by omega
    rw [if_neg h]
    go_enter Tryz.func105, Tryz.ntmps105
    go_wp2
    go_ret
    exact ⟨rfl, rfl⟩

end Go.Proofs.YtlbpjcphhocdkabGreatDoor

namespace Go.Proofs.YtlbpjcphhocdkabGreatDoor
open Go.RowKit Go.Proofs.YtlbpjcphhocdkabGreatDoor.Mod Go.Proofs.YtlbpjcphhocdkabGreatDoor.Pst

/-- What a method that answers nothing leaves. -/
def Does (w : World) (F : Nat → Prop) (b o : Nat) (s' : PS) (e : Ending) (w' : World) : Prop := e = .returned (.tuple #[]) ∧ StAt w' F b o s' ∧ Bes b o w w'

set_option maxHeartbeats 1000000 in
theorem beginWait_any (F : Nat → Prop) (b o : Nat) (s : PS) (c : Cfg) (w : World) (h : StAt w F b o s) :
    Calls Tryz.prog 82 #[.pointer (some ⟨b, o, none⟩), cfgV c] w fun e w' => Does w F b o (beginWait c s) e w' := by
  have c0 := h.side
  have c5 := h.mode
  have c6 := h.wait
  have f6 := h.fz (o + 6)
  have hlt := h.lt
  have H := hide h
  clear h
  unfold cfgV
  by_cases m1 : s.mode = 1
  · by_cases s1 : s.side = 1
    · have HE : Hid (beginWait c s = { s with wait := c.second }) := by simp [Hid, beginWait, wt, m1, s1]
      rw [m1] at c5
      rw [s1] at c0
      go_enter Tryz.func82, Tryz.ntmps82
      go_wp2
      go_end0
      rw [HE.out]
      exact ⟨rfl, ((H.out.wait' c.first).wait' c.second).alloc _, ((((Bes.refl b o w).set 6 (by omega) _).set 6 (by omega) _).alloc (by simpa using hlt) _)⟩
    · have HE : Hid (beginWait c s = { s with wait := c.first }) := by simp [Hid, beginWait, wt, m1, s1]
      have s1' : ¬ (s.side : Int) = 1 := by omega
      rw [m1] at c5
      go_enter Tryz.func82, Tryz.ntmps82
      go_wp2
      go_end0
      rw [HE.out]
      exact ⟨rfl, (H.out.wait' c.first).alloc _, (((Bes.refl b o w).set 6 (by omega) _).alloc (by simpa using hlt) _)⟩
  · have m1' : ¬ (s.mode : Int) = 1 := by omega
    by_cases m2 : s.mode = 2
    · have HE : Hid (beginWait c s = { s with wait := c.reply }) := by simp [Hid, beginWait, wt, m2]
      rw [m2] at c5
      go_enter Tryz.func82, Tryz.ntmps82
      go_wp2
      go_end0
      rw [HE.out]
      exact ⟨rfl, (H.out.wait' c.reply).alloc _, (((Bes.refl b o w).set 6 (by omega) _).alloc (by simpa using hlt) _)⟩
    · have m2' : ¬ (s.mode : Int) = 2 := by omega
      by_cases m3 : s.mode = 3
      · have HE : Hid (beginWait c s = { s with wait := c.lost }) := by simp [Hid, beginWait, wt, m3]
        rw [m3] at c5
        go_enter Tryz.func82, Tryz.ntmps82
        go_wp2
        go_end0
        rw [HE.out]
        exact ⟨rfl, (H.out.wait' c.lost).alloc _, (((Bes.refl b o w).set 6 (by omega) _).alloc (by simpa using hlt) _)⟩
      · have m3' : ¬ (s.mode : Int) = 3 := by omega
        have HE : Hid (beginWait c s = s) := by simp [Hid, beginWait, wt, m1, m2, m3]
        go_enter Tryz.func82, Tryz.ntmps82
        go_wp2
        go_end0
        rw [HE.out]
        exact ⟨rfl, H.out.alloc (.cells (cfgCells c) 23), (Bes.refl b o w).alloc hlt _⟩

theorem shortS_is (k : Nat) (h : 3 ≤ k ∧ k ≤ 9) : shortS k = shortB k ∧ shortE k = 0 := by
  rcases (show k = 3 ∨ k = 4 ∨ k = 5 ∨ k = 6 ∨ k = 7 ∨ k = 8 ∨ k = 9 by omega) with rfl | rfl | rfl | rfl | rfl | rfl | rfl <;> exact ⟨by decide, by decide⟩

set_option maxHeartbeats 1000000 in
theorem putShort_any (F : Nat → Prop) (b o : Nat) (s : PS) (k : Nat) (w : World) (h : StAt w F b o s) (hk : 3 ≤ k ∧ k ≤ 9) :
    Calls Tryz.prog 84 #[.pointer (some ⟨b, o, none⟩), .int .i64 k] w fun e w' => Does w F b o (putShort k s) e w' := by
  have hlt := h.lt
  have HS := hide (shortS_is k hk)
  have H := hide h
  clear h hk
  go_enter Tryz.func84, Tryz.ntmps84
  go_wp2_with fail
  refine (short_any k w).mono ?_
  rintro e w1 ⟨rfl, hb⟩
  rw [HS.out.1, HS.out.2]
  have H1 := hide (H.out.below hb)
  have HB := hide ((Bes.refl b o w).below hlt hb)
  have c4 := H1.out.put
  have f4 := H1.out.fz (o + 4)
  clear hb
  go_wp2
  go_end0
  exact ⟨rfl, H1.out.put' _, HB.out.set 4 (by omega) _⟩

set_option maxHeartbeats 1000000 in
theorem becomeIdle_any (F : Nat → Prop) (b o : Nat) (s : PS) (w : World) (h : StAt w F b o s) :
    Calls Tryz.prog 86 #[.pointer (some ⟨b, o, none⟩)] w fun e w' => Does w F b o (becomeIdle s) e w' := by
  have c5 := h.mode
  have c6 := h.wait
  have c8 := h.tries
  have c9 := h.off
  have c10 := h.free
  have c11 := h.block
  have c12 := h.head
  have c13 := h.text
  have c14 := h.yes
  have f5 := h.fz (o + 5)
  have f6 := h.fz (o + 6)
  have f8 := h.fz (o + 8)
  have f9 := h.fz (o + 9)
  have f10 := h.fz (o + 10)
  have f11 := h.fz (o + 11)
  have f12 := h.fz (o + 12)
  have f13 := h.fz (o + 13)
  have f14 := h.fz (o + 14)
  have hlt := h.lt
  have H := hide h
  clear h
  go_enter Tryz.func86, Tryz.ntmps86
  go_wp2
  go_end0
  have k := ((((((((H.out.mode' 0).wait' 0).tries' 0).off' 0).free' false).block' 0).head' []).text' []).yes' 0
  exact ⟨rfl, k, ((((((((((Bes.refl b o w).set 5 (by omega) _).set 6 (by omega) _).set 8 (by omega) _).set 9 (by omega) _).set 10 (by omega) _).set 11 (by omega) _).set 12 (by omega) _).set 13 (by omega) _).set 14 (by omega) _)⟩

end Go.Proofs.YtlbpjcphhocdkabGreatDoor

namespace Go.Proofs.YtlbpjcphhocdkabGreatDoor
open Go.RowKit Go.Proofs.YtlbpjcphhocdkabGreatDoor.Mod Go.Proofs.YtlbpjcphhocdkabGreatDoor.Pst

set_option maxHeartbeats 1000000 in
theorem answer_any (F : Nat → Prop) (b o : Nat) (s : PS) (c : Cfg) (w : World) (h : StAt w F b o s) :
    Calls Tryz.prog 77 #[.pointer (some ⟨b, o, none⟩), cfgV c] w fun e w' => Does w F b o (answer c s) e w' := by
  have hlt := h.lt
  have hne : b ≠ w.heap.size := by omega
  have H := hide (h.alloc (.cells (cfgCells c) 23))
  have HC := hide (CfgAt.new w c)
  have HB := hide ((Bes.refl b o w).alloc hlt (.cells (cfgCells c) 23))
  clear h
  unfold cfgV
  cases hb : s.busy
  · have HE : Hid (answer c s = beginWait c (putShort 7 { becomeIdle s with mode := 3, yes := 7 })) := by simp [Hid, answer, hb]
    go_enter Tryz.func77, Tryz.ntmps77
    go_wp2_with fail
    refine (becomeIdle_any F b o s _ H.out).mono ?_
    rintro e w1 ⟨rfl, h1, b1⟩
    have C1 := hide (HC.out.bes b1 hne)
    have B1 := hide (HB.out.trans b1)
    have c3 := h1.busy
    have c5 := h1.mode
    have c14 := h1.yes
    have f5 := h1.fz (o + 5)
    have f14 := h1.fz (o + 14)
    have H1 := hide h1
    simp only [becomeIdle] at c3 c5 c14
    rw [hb] at c3
    clear h1 b1
    go_wp2_with fail
    refine (putShort_any F b o { becomeIdle s with mode := 3, yes := 7 } 7 _ ((H1.out.mode' 3).yes' 7) (by omega)).mono ?_
    rintro e w2 ⟨rfl, h2, b2⟩
    have C2 := hide ((C1.out.bes ((Bes.refl b o w1).set 5 (by omega) _) hne).bes ((Bes.refl b o _).set 14 (by omega) _) hne |>.bes b2 hne)
    have B2 := hide ((((B1.out).set 5 (by omega) _).set 14 (by omega) _).trans b2)
    have H2 := hide h2
    obtain ⟨k0, k1, k2, k3, k4, k5, k6, k7, k8, k9⟩ := C2.out.all
    clear h2 b2 c3 c5 c14 f5 f14
    go_wp2_with fail
    refine (beginWait_any F b o _ c _ H2.out).mono ?_
    rintro e w3 ⟨rfl, h3, b3⟩
    go_wp2
    go_end0
    rw [HE.out]
    exact ⟨rfl, h3, B2.out.trans b3⟩
  · have HE : Hid (answer c s = putShort 9 (becomeIdle s)) := by simp [Hid, answer, hb]
    go_enter Tryz.func77, Tryz.ntmps77
    go_wp2_with fail
    refine (becomeIdle_any F b o s _ H.out).mono ?_
    rintro e w1 ⟨rfl, h1, b1⟩
    have B1 := hide (HB.out.trans b1)
    have c3 := h1.busy
    have H1 := hide h1
    simp only [becomeIdle] at c3
    rw [hb] at c3
    clear h1 b1
    go_wp2_with fail
    refine (putShort_any F b o _ 9 _ H1.out (by omega)).mono ?_
    rintro e w2 ⟨rfl, h2, b2⟩
    go_wp2
    go_end0
    rw [HE.out]
    exact ⟨rfl, h2, B1.out.trans b2⟩

set_option maxHeartbeats 1000000 in
theorem bid_any (F : Nat → Prop) (b o : Nat) (s : PS) (c : Cfg) (w : World) (h : StAt w F b o s) :
    Calls Tryz.prog 87 #[.pointer (some ⟨b, o, none⟩), cfgV c] w fun e w' => Does w F b o (bid c s) e w' := by
  have hlt := h.lt
  have hne : b ≠ w.heap.size := by omega
  have H := hide h
  have HC := hide (CfgAt.new (((((w.setCell ⟨b, o + 5, none⟩ (.int .i64 1)).setCell ⟨b, o + 8, none⟩ (.int .i64 1)).setCell ⟨b, o + 9, none⟩ (.int .i64 0)).setCell ⟨b, o + 10, none⟩ (.bool false)).setCell ⟨b, o + 11, none⟩ (.int .i64 0)) c)
  have HB := hide ((((((Bes.refl b o w).set 5 (by omega) (.int .i64 1)).set 8 (by omega) (.int .i64 1)).set 9 (by omega) (.int .i64 0)).set 10 (by omega) (.bool false)).set 11 (by omega) (.int .i64 0) |>.alloc (by simpa using hlt) (.cells (cfgCells c) 23))
  have H0 := hide ((((((h.mode' 1).tries' 1).off' 0).free' false).block' 0).alloc (.cells (cfgCells c) 23))
  have c5 := h.mode
  have c8 := h.tries
  have c9 := h.off
  have c10 := h.free
  have c11 := h.block
  have f5 := h.fz (o + 5)
  have f8 := h.fz (o + 8)
  have f9 := h.fz (o + 9)
  have f10 := h.fz (o + 10)
  have f11 := h.fz (o + 11)
  clear h
  unfold cfgV
  go_enter Tryz.func87, Tryz.ntmps87
  go_wp2_with fail
  refine (putShort_any F b o _ 3 _ H0.out (by omega)).mono ?_
  rintro e w1 ⟨rfl, h1, b1⟩
  have C1 := hide (HC.out.bes b1 (by simpa using hne))
  have B1 := hide (HB.out.trans b1)
  have H1 := hide h1
  obtain ⟨k0, k1, k2, k3, k4, k5, k6, k7, k8, k9⟩ := C1.out.all
  simp only [World.size_setCell] at k0 k1 k2 k3 k4 k5 k6 k7 k8 k9
  clear h1 b1 c5 c8 c9 c10 c11 f5 f8 f9 f10 f11
  go_wp2_with fail
  refine (beginWait_any F b o _ c _ H1.out).mono ?_
  rintro e w2 ⟨rfl, h2, b2⟩
  go_wp2
  go_end0
  exact ⟨rfl, h2, B1.out.trans b2⟩

end Go.Proofs.YtlbpjcphhocdkabGreatDoor

namespace Go.Proofs.YtlbpjcphhocdkabGreatDoor
open Go.RowKit Go.Proofs.YtlbpjcphhocdkabGreatDoor.Mod Go.Proofs.YtlbpjcphhocdkabGreatDoor.Pst


theorem QAt.some {w : World} {F : Nat → Prop} {v : Value} {l : List Msg} (h : QAt w F v l) (hl : l ≠ []) :
    ∃ g cap, v = .slice (some ⟨g, 0, none⟩) l.length cap ∧ l.length ≤ cap ∧ F g ∧ g < w.heap.size ∧ ∀ i, i < l.length → w.cell? ⟨g, i * 3, none⟩ = some (.string ⟨(l.getD i noMsg).head.toArray⟩) ∧ w.cell? ⟨g, i * 3 + 1, none⟩ = some (.string ⟨(l.getD i noMsg).text.toArray⟩) ∧ w.cell? ⟨g, i * 3 + 2, none⟩ = some (.bool (l.getD i noMsg).clear) := by
  rcases h.1.2 with ⟨_, h0⟩ | ⟨g, cap, cur, rfl, hB, hh, h1, h2, h3, h4⟩
  · exact absurd (List.eq_nil_of_length_eq_zero h0) hl
  · refine ⟨g, cap, rfl, h1, h.2 g rfl, lt_of_block hh, fun i hi => ?_⟩
    have e : ∀ k, k < 3 → w.cell? ⟨g, i * 3 + k, none⟩ = (msgCells (l.getD i noMsg))[k]? := by
      intro k hk
      have := World.ownsRow.cellAt h.1 (i * 3 + k) (by omega)
      rw [this, mcells_get l i k hk hi]
    exact ⟨e 0 (by omega), e 1 (by omega), e 2 (by omega)⟩

theorem results_msg {fn : Func} {k : Tmp} (hf : fn.results = #[.cell k 36]) (tmps : Array Value) (w : World) (g : Nat) {h t c : Value} (ht : tmps.getD k undef = .pointer (some ⟨g, 0, none⟩))
    (c0 : w.cell? ⟨g, 0, none⟩ = some h) (c1 : w.cell? ⟨g, 1, none⟩ = some t) (c2 : w.cell? ⟨g, 2, none⟩ = some c) :
    (results fn tmps).run Tryz.prog w = .ok (.agg #[h, t, c]) w := by
  simp only [Array.getD_eq_getD_getElem?] at ht
  simp [results, hf, ht, go_sem, c0, c1, c2]

set_option maxHeartbeats 1000000 in
theorem message_any (F : Nat → Prop) (b o : Nat) (s : PS) (w : World) (h : StAt w F b o s) (hq : s.q ≠ []) (hn : s.q.length ≤ 100) :
    Calls Tryz.prog 102 #[.pointer (some ⟨b, o, none⟩)] w fun e w' => e = .returned (msgV (message s)) ∧ Below w.heap.size w w' := by
  have hlt := h.lt
  obtain ⟨v, c1, hv⟩ := h.que
  obtain ⟨g, cap, rfl, _, _, hg, hc⟩ := hv.some hq
  have hpos : 0 < s.q.length := List.length_pos_iff.2 hq
  obtain ⟨d0, d1, d2⟩ := hc 0 hpos
  have HM : Hid (s.q.getD 0 noMsg = message s) := by
    unfold Hid message
    cases hs : s.q with
    | nil => exact absurd hs hq
    | cons a l => rfl
  rw [HM.out] at d0 d1 d2
  simp only [Nat.zero_mul, Nat.zero_add] at d0 d1 d2
  generalize message s = m at *
  generalize hL : s.q.length = L at *
  clear hc hv h HM hq
  have hz : ¬ (L : Int) = 0 := by omega
  go_enter Tryz.func102, Tryz.ntmps102
  go_wp2
  (try simp only [Exit.inBlock, Exit.then])
  refine bodyPost_ret (results_msg rfl _ _ w.heap.size rfl (h := .string ⟨m.head.toArray⟩) (t := .string ⟨m.text.toArray⟩) (c := .bool m.clear) ?_ ?_ ?_) rfl ?_
  · simp
  · simp
  · simp
  · exact ⟨rfl, (Below.refl _ _).alloc (Nat.le_refl _) _⟩

set_option maxHeartbeats 1000000 in
theorem number_any (F : Nat → Prop) (b o : Nat) (s : PS) (w : World) (h : StAt w F b o s) (hj : s.q.length ≤ s.joined) (hm : s.joined ≤ 1000000000000000) :
    Calls Tryz.prog 118 #[.pointer (some ⟨b, o, none⟩)] w fun e w' => e = .returned (.int .i64 (number s : Nat)) ∧ ∃ n, w' = w.drewN n := by
  have hlt := h.lt
  have c2 := h.joined
  obtain ⟨v, c1, hv⟩ := h.que
  obtain ⟨a, cap, rfl⟩ := hv.form
  have HE : Hid (((number s : Nat) : Int) = (s.joined : Int) - (s.q.length : Int) + 1) := by unfold Hid number; omega
  rw [HE.out]
  generalize s.joined = J at *
  generalize hL : s.q.length = L at *
  clear hv h HE
  go_enter Tryz.func118, Tryz.ntmps118
  go_wp2
  go_quiet (fail)
  go_wp2
  go_ret
  exact ⟨rfl, _, rfl⟩

theorem Tryz.infoMsg : (Tryz.prog.info? 36).map (fun i => (i.zero, i.size, i.bytes)) = some (some (.agg #[.string ⟨#[]⟩, .string ⟨#[]⟩, .bool false]), 3, 40) := by kernel_rfl

/-- A list of messages among the blocks from B on. -/
def OwnM (w : World) (B : Nat) (v : Value) (l : List Msg) : Prop := w.ownsRow B 36 3 v l.length (mcells l)

theorem cells_new (W : World) (cs : Array Value) (t : TypeId) : ∀ j u, cs.toList[j]? = some u → (W.alloc (.cells cs t)).cell? ((⟨W.heap.size, 0, none⟩ : Addr).add j) = some u := by
  intro j u hu
  have : (⟨W.heap.size, 0, none⟩ : Addr).add j = ⟨W.heap.size, j, none⟩ := by simp [Addr.add_lit]
  rw [this, World.cell?_alloc_new]
  simpa using hu

section
variable {ops : Array Oper} {rest : List Oper} {o : Oper} {a : Act} {Q : Exit → Act → World → Prop}
theorem app_msg (W : World) (m : Msg) (hgd : o.guard = none) (sl x : Operand)
    (ho : o.op = .call { callee := .builtin .append, args := #[sl, x], argTypes := #[39, 39] })
    (B : Nat) (v : Value) (l : List Msg) (g cp : Nat) (hs : a.eval sl = v) (hx : a.eval x = .slice (some ⟨g, 0, none⟩) 1 cp) (hg0 : g = W.heap.size) (hown : OwnM W B v l)
    (hlen : l.length ≤ 1000000000000) (w0 : World) (hbel : Below B w0 W) (hB : B ≤ W.heap.size)
    (h : ∀ v' W', OwnM W' B v' (l ++ [m]) → Below B w0 W' → B ≤ W'.heap.size → wpList Tryz.prog ops Q rest (a.put o.dst v') W') :
    wpList Tryz.prog ops Q (o :: rest) a (W.alloc (.cells #[.string ⟨m.head.toArray⟩, .string ⟨m.text.toArray⟩, .bool m.clear] 36)) := by
  obtain ⟨i0, hi, hz0, hz1, hz2⟩ := info_parts Tryz.infoMsg
  subst hg0
  refine wpList_append_own _ hgd sl x 39 ho B 36 i0 _ 3 40 Tryz.underlying39 hi hz0 hz1 hz2 rfl (by decide) v l.length (mcells l) hs (World.ownsRow.alloc hown _) ⟨W.heap.size, 0, none⟩ 1 cp (msgCells m) hx rfl
    (cells_new _ _ _) (by intro u hu; simp [msgCells] at hu; rcases hu with rfl | rfl | rfl <;> rfl) (by unfold maxLen; omega) (by omega) (by simp; omega) ?_
  intro v' W' ho' hg _
  have hlt : ∀ k, v.ownBlock = some k → B ≤ k := fun k hk => (World.ownsRow.lt hown k hk).1
  refine h v' W' ?_ ((hbel.alloc hB _).grown hg (by simp; omega) hlt) (by have := hg.size; simp at this; omega)
  unfold OwnM
  rw [mcells_append, List.length_append, show mcells [m] = msgCells m by simp [mcells]]
  exact ho'
end

theorem take_tail_succ (l : List Msg) (k : Nat) (h : k + 1 < l.length) : l.tail.take (k + 1) = l.tail.take k ++ [l.getD (k + 1) noMsg] := by
  cases l with
  | nil => simp at h
  | cons a l =>
    have h' : k < l.length := by simpa using h
    show l.take (k + 1) = l.take k ++ [l.getD k noMsg]
    rw [List.take_add_one, List.getElem?_eq_getElem h', List.getD, List.getElem?_eq_getElem h']
    rfl

theorem OwnM.form {w : World} {B : Nat} {v : Value} {l : List Msg} (h : OwnM w B v l) : ∃ a cap, v = .slice a l.length cap := by
  rcases h.2 with ⟨rfl, h0⟩ | ⟨g, cap, cur, rfl, _⟩
  · exact ⟨none, 0, by rw [h0]⟩
  · exact ⟨_, cap, rfl⟩
theorem OwnM.q {w u : World} {v : Value} {l : List Msg} (h : OwnM w u.heap.size v l) : QAt w (New u) v l := by
  refine ⟨⟨h.1, ?_⟩, fun g hg => (World.ownsRow.lt h g hg).1⟩
  rcases h.2 with h2 | ⟨g, cap, cur, hv, _, r⟩
  · exact Or.inl h2
  · exact Or.inr ⟨g, cap, cur, hv, Nat.zero_le _, r⟩

set_option maxHeartbeats 2000000 in
set_option maxRecDepth 1000000 in
theorem leave_any (F : Nat → Prop) (b o : Nat) (s : PS) (w : World) (h : StAt w F b o s) (hn : s.q.length ≤ 100) :
    Calls Tryz.prog 119 #[.pointer (some ⟨b, o, none⟩)] w fun e w' => Does w (New w) b o (leave s) e w' := by
  have hlt := h.lt
  obtain ⟨v, c1, hv⟩ := h.que
  have f1 := h.fz (o + 1)
  have HV := hide hv
  obtain ⟨a, cap, rfl⟩ := hv.form
  have H := hide h
  generalize hL : s.q.length = L at *
  have HL := hide hL
  clear hv h hL
  go_enter Tryz.func119, Tryz.ntmps119
  go_wp2
  go_loopw [2, 3] (fun x i wr => ∃ k : Nat, (k = 0 ∨ k + 1 ≤ L) ∧ i = .int .i64 (k + 1 : Nat) ∧ OwnM wr w.heap.size x (s.q.tail.take k) ∧ Below w.heap.size w wr) (fun _ i _ => L + 1 - (intOf i).toNat)
  case atStart =>
    refine ⟨0, Or.inl rfl, rfl, ?_, (Below.refl _ _).alloc (Nat.le_refl _) _⟩
    exact World.ownsRow_lit w #[] 0 (Nat.le_refl _) (by unfold maxLen; omega) rfl
  case round =>
    obtain ⟨k, hk, rfl, hown, hbel⟩ := hrel
    have d1 := (hbel.cell (p := ⟨b, o + 1, none⟩) hlt).trans c1
    by_cases hlt2 : k + 1 < L
    · obtain ⟨g, cap', e, _, _, hg, hc⟩ := HV.out.some (by intro e; rw [e] at HL; have := HL.out; simp at this; omega)
      simp only [Value.slice.injEq] at e
      obtain ⟨rfl, _, rfl⟩ := e
      obtain ⟨z0, z1, z2⟩ := hc (k + 1) (by rw [HL.out]; exact hlt2)
      rw [← hbel.cell (p := ⟨g, _, none⟩) hg] at z0 z1 z2
      have HT := hide (take_tail_succ s.q k (by rw [HL.out]; exact hlt2))
      generalize s.q.getD (k + 1) noMsg = m at *
      have hlt3 : ((k + 1 : Nat) : Int) < (L : Int) := by omega
      have HBel := hide hbel
      have hl1 : (s.q.tail.take k).length ≤ 1000000000000 := by simp; omega
      have hB := hbel.size
      clear hc
      go_wp2_with (at_builtin; refine app_msg _ m rfl (.tmp 14) (.tmp 22) rfl w.heap.size _ _ _ 1 rfl rfl rfl hown hl1 w HBel.out hB ?_; intro x' w' hown' hbel' hB')
      go_roundw
      case rel => exact ⟨k + 1, Or.inr (by omega), by go_num, by rw [HT.out]; exact hown', hbel'⟩
      case measure => simp [intOf]; omega
    · have hlt3 : ¬ ((k + 1 : Nat) : Int) < (L : Int) := by omega
      have HT : Hid (s.q.tail.take k = s.q.tail) := List.take_of_length_le (by rw [List.length_tail, HL.out]; omega)
      rw [HT.out] at hown
      obtain ⟨a2, cap2, rfl⟩ := hown.form
      have HQ := hide hown.q
      have HB := hide ((Bes.refl b o w).below hlt hbel)
      have H2 := hide (H.out.below hbel)
      have g1 := (hbel.frozen (p := ⟨b, o + 1, none⟩) hlt).trans f1
      have hN : ¬ New w b := fun x => by unfold New at x; omega
      generalize hz2 : s.q.tail.length = z2 at *
      clear hown hbel
      go_wp2
      go_end0
      exact ⟨rfl, H2.out.que' _ _ HQ.out hN, HB.out.set 1 (by omega) _⟩

end Go.Proofs.YtlbpjcphhocdkabGreatDoor
