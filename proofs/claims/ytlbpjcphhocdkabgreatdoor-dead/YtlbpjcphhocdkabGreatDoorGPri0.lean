/-Plain: a run ahead of its first tick. -/
import Derived.Test.YtlbpjcphhocdkabGreatDoorGKf
namespace Go.Proofs.YtlbpjcphhocdkabGreatDoor
open Go.Proofs.YtlbpjcphhocdkabGreatDoor.Mod Go.Proofs.YtlbpjcphhocdkabGreatDoor.Pst Go.Proofs.YtlbpjcphhocdkabGreatDoor.Run

theorem pts_say {x : Ln} {hit ha hb : Bool} {p0 p1 : Put} {st : Int} {m : Msg} (hp : Pts x hit ha hb p0 p1) (he : submitE x st m = 0) : Pts (submitL x st m) hit ha hb p0 p1 := by
  obtain ⟨hst, hm, hq⟩ := submit_cases he
  unfold submitL
  rw [if_pos he]
  rcases hst with rfl | rfl
  · simp only [if_true]
    exact ⟨⟨sub_ok m hp.tok.a, hp.tok.b, hp.tok.k0, hp.tok.k1, hp.tok.t⟩, dir_sub_s hp.tok.a hp.d0 hm, dir_sub_t m hp.d1, hp.k0, hp.k1, hp.n0, hp.n1, hp.m0, hp.m1, hp.w0, hp.w1, hp.both⟩
  · simp only [show ¬ (1 : Int) = 0 by decide, if_false]
    exact ⟨⟨hp.tok.a, sub_ok m hp.tok.b, hp.tok.k0, hp.tok.k1, hp.tok.t⟩, dir_sub_t m hp.d0, dir_sub_s hp.tok.b hp.d1 hm, hp.k0, hp.k1, hp.n0, hp.n1, hp.m0, hp.m1, hp.w0, hp.w1, hp.both⟩
structure St0 (i j : Nat) (r : R) : Prop where
  inv : Inv r
  b0 : r.x.s0.busy = false
  b1 : r.x.s1.busy = false
  hit : r.hit = false
  pts : Pts r.x false r.a.here r.b.here .nil .nil
  o0 : r.x.on0 = []
  o1 : r.x.on1 = []
  m0 : r.x.s0.mode = 0
  m1 : r.x.s1.mode = 0
  r0 : r.x.s0.rest = 0
  r1 : r.x.s1.rest = 0
  t0 : r.a.told = 0
  t1 : r.b.told = 0
  ok : r.ok = true
  fits : r.fits = true
  la : r.a.want.length = i
  lb : r.b.want.length = j
theorem St0.new {c : Cfg} (hc : c.Ok) : St0 0 0 (newR c false) := by
  have h := (PI.new hc false).inv rfl
  have hm : May .nil (hear c []) := hear_nil c
  have hp : Pts (newL c) false false false .nil .nil := ⟨tok_new c, dir_new c, dir_new c, trivial, trivial, fun _ => rfl, fun _ => rfl, hm, hm, fun _ => Or.inr rfl, fun _ => Or.inr rfl, fun e => absurd rfl e⟩
  exact ⟨h, rfl, rfl, rfl, hp, rfl, rfl, rfl, rfl, rfl, rfl, rfl, rfl, rfl, rfl, rfl, rfl⟩
theorem submitL_s (x : Ln) (st : Int) (m : Msg) : (submitL x st m).s0.busy = x.s0.busy ∧ (submitL x st m).s1.busy = x.s1.busy ∧ (submitL x st m).on0 = x.on0 ∧ (submitL x st m).on1 = x.on1 ∧ (submitL x st m).s0.mode = x.s0.mode ∧ (submitL x st m).s1.mode = x.s1.mode ∧ (submitL x st m).s0.rest = x.s0.rest ∧ (submitL x st m).s1.rest = x.s1.rest := by
  unfold submitL
  split
  · split <;> exact ⟨rfl, rfl, rfl, rfl, rfl, rfl, rfl, rfl⟩
  · exact ⟨rfl, rfl, rfl, rfl, rfl, rfl, rfl, rfl⟩
theorem St0.say {i j : Nat} {r : R} (h : St0 i j r) {st : Int} {m : Msg} (hst : st = 0 ∨ st = 1) (hm : MsgFit m) (hq : (stnOf r.x st).queue.length < r.x.c.queue) : St0 (if st = 0 then i + 1 else i) (if st = 0 then j else j + 1) (saidR r st m) := by
  have he : submitE r.x st m = 0 := by rw [submit_fit hst hm, if_neg (by omega)]
  have es : saidR r st m = sayR r st m := by unfold saidR; rw [if_pos hq]
  have hi := say_inv h.inv he
  have hp := pts_say h.pts he
  obtain ⟨s1, s2, s3, s4, s5, s6, s7, s8⟩ := submitL_s r.x st m
  rw [es]
  rcases hst with rfl | rfl
  · exact ⟨hi, s1.trans h.b0, s2.trans h.b1, h.hit, hp, s3.trans h.o0, s4.trans h.o1, s5.trans h.m0, s6.trans h.m1, s7.trans h.r0, s8.trans h.r1, h.t0, h.t1, h.ok, h.fits, by simp [sayR, setSide, sideOf, h.la], by simp [sayR, setSide, h.lb]⟩
  · exact ⟨hi, s1.trans h.b0, s2.trans h.b1, h.hit, hp, s3.trans h.o0, s4.trans h.o1, s5.trans h.m0, s6.trans h.m1, s7.trans h.r0, s8.trans h.r1, h.t0, h.t1, h.ok, h.fits, by simp [sayR, setSide, h.la], by simp [sayR, setSide, sideOf, h.lb]⟩
theorem St0.q0 {i j : Nat} {r : R} (h : St0 i j r) : (stnOf r.x 0).queue.length = i ∧ (stnOf r.x 1).queue.length = j := by
  have a := h.inv.book.a.fit
  have b := h.inv.book.b.fit
  have := h.t0; have := h.t1; have := h.la; have := h.lb
  constructor
  · show r.x.s0.queue.length = i; omega
  · show r.x.s1.queue.length = j; omega
theorem St0.frr {i j : Nat} {r : R} (h : St0 i j r) : Frr r .nil .nil 0 := by
  refine ⟨⟨⟨h.inv, h.b0, h.b1⟩, h.hit, h.pts, ⟨h.o0, h.o1, trivial, trivial⟩⟩, ⟨⟨by simp, by simp⟩, ?_, ?_, ?_, ?_⟩, .start h.m0 h.m1 (by rw [h.r0]; omega) (by rw [h.r1]; omega) rfl rfl⟩
  · intro _ e; rw [h.m0] at e; cases e
  · intro _ e; rw [h.m1] at e; cases e
  · intro _ e; rw [h.m0] at e; cases e
  · intro _ e; rw [h.m1] at e; cases e
theorem beg_st0 {r : R} (h : ∃ c m, c.Ok ∧ MsgFit m ∧ r = saidR (newR c false) 0 m) : St0 1 0 r := by
  obtain ⟨c, m, hc, hm, rfl⟩ := h
  exact (St0.new hc).say (st := 0) (Or.inl rfl) hm (by have := hc.queue; show 0 < c.queue; omega)

/-- Primary's first event. -/
theorem prim_ev {r : R} (h : Inv r) (hk : (tkR r).a.told = 0 → isCame (did0 r.x).2.2 = false) {e : Ev} {l : List Ev} (he : events r.x = e :: l) (k1 : e.kind = 1) (t0 : (tkR r).a.told = 0) : e.station = 1 := by
  obtain ⟨q1, s1⟩ := h.book.good.s1
  have o1 : Out 1 r.x.s1 (did1 r.x).1 (did1 r.x).2.2 := out_of (hears1 r.x) s1
  have c0 := hk t0
  unfold events at he
  cases e0 : (did0 r.x).2.2 with
  | some ev =>
    rw [e0] at he c0
    simp only [Option.toList, List.cons_append, List.nil_append, List.cons.injEq] at he
    rw [he.1] at c0
    simp only [isCame, decide_eq_false_iff_not] at c0
    exact absurd k1 c0
  | none =>
    rw [e0] at he
    cases e1 : (did1 r.x).2.2 with
    | none => rw [e1] at he; simp at he
    | some ev =>
      rw [e1] at he o1
      simp only [Option.toList, List.nil_append, List.cons.injEq] at he
      rw [← he.1]
      cases o1 with
      | came m q j => rfl
      | told k hk' ne q j => rfl
/-- The flags stay. -/
structure Fg (n : Nat) (r : R) : Prop where
  ok : r.ok = true
  fits : r.fits = true
  la : r.a.want.length ≤ n
  lb : r.b.want.length ≤ n
theorem Fg.tick {n : Nat} {r : R} (h : Fg n r) (hi : Inv r) : Fg n (tkR r) := by
  obtain ⟨_, t, _⟩ := inv_tick hi
  exact ⟨t.ok.trans h.ok, t.fits.trans h.fits, by rw [t.a, sideN_want]; exact h.la, by rw [t.b, sideN_want]; exact h.lb⟩
end Go.Proofs.YtlbpjcphhocdkabGreatDoor
