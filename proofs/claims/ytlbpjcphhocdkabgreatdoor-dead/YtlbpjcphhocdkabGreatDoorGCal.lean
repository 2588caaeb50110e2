/-Silence in the harness. -/
import Derived.Test.YtlbpjcphhocdkabGreatDoorGLw
namespace Go.Proofs.YtlbpjcphhocdkabGreatDoor
set_option maxRecDepth 1000000
open Go.RowKit Go.Proofs.YtlbpjcphhocdkabGreatDoor.Mod Go.Proofs.YtlbpjcphhocdkabGreatDoor.Pst Go.Proofs.YtlbpjcphhocdkabGreatDoor.Run

theorem onLine_h (w0 W : World) (A : RA) (r : R) (st : Int) (h : Hs w0 W A r) :
    Calls Tryz.prog 18 #[.pointer (some ⟨A.xb, 0, none⟩), .int .i64 st] W fun e w' => e = .returned (.string ⟨(onOf r.x st).toArray⟩) ∧ Hs w0 w' A r ∧ Below W.heap.size W w' := by
  refine (onLine_run _ A r st W h.1).mono ?_
  rintro e w' ⟨rfl, hb⟩
  exact ⟨rfl, h.below hb, hb⟩
theorem look_h (w0 W : World) (A : RA) (r : R) (st : Int) (h : Hs w0 W A r) :
    Calls Tryz.prog 19 #[.pointer (some ⟨A.xb, 0, none⟩), .int .i64 st] W fun e w' => e = .returned (lookOf r.x st) ∧ Hs w0 w' A r ∧ Below W.heap.size W w' := by
  refine (look_run _ A r st W h.1).mono ?_
  rintro e w' ⟨rfl, hb⟩
  exact ⟨rfl, h.below hb, hb⟩

/-- In the silence; k: how many ticks are left of it. -/
structure QP (n D k : Nat) (r : R) : Prop where
  cal : Cal r
  ok : r.ok = true
  la : r.a.want.length ≤ n
  lb : r.b.want.length ≤ n
  sil : Sil D r.x.s0 r.x.s1
  now : D ≤ r.x.now + k
theorem QP.tick {n D k : Nat} {r : R} (h : QP n D (k + 1) r) : TickOk r ∧ QP n D k (tkR r) ∧ (tkR r).x.on0 = [] ∧ (tkR r).x.on1 = [] := by
  obtain ⟨a, t, _⟩ := inv_tick h.cal.inv
  obtain ⟨s, o0, o1, nw, _⟩ := sil_tick h.cal.inv h.sil
  refine ⟨a, ⟨h.cal.tick.cal, t.ok.trans h.ok, by rw [t.a, sideN_want]; exact h.la, by rw [t.b, sideN_want]; exact h.lb, s, ?_⟩, o0, o1⟩
  have := h.now
  omega
theorem QP.tick0 {n D : Nat} {r : R} (h : QP n D 0 r) : TickOk r ∧ QP n D 0 (tkR r) ∧ (tkR r).x.on0 = [] ∧ (tkR r).x.on1 = [] := (show QP n D (0 + 1) r from ⟨h.cal, h.ok, h.la, h.lb, h.sil, by have := h.now; omega⟩).tick
theorem QP.start {n : Nat} {r : R} (h : Cal r) (hs : SP n r) (hl : leftN r = 0) : QP n (r.x.now + r.x.c.lost) (r.x.c.lost + 3) r := ⟨h, hs.ok, hs.la, hs.lb, sil_start h.inv hl, by omega⟩
theorem QP.end' {n D : Nat} {r : R} (h : QP n D 0 r) : r.x.s0.mode = 0 ∧ r.x.s1.mode = 0 := sil_end h.cal.inv h.sil (by have := h.now; omega)
def QtR (w0 : World) (A : RA) (n D k : Nat) (W : World) : Prop := ∃ r, Hs w0 W A r ∧ QP n D k r
end Go.Proofs.YtlbpjcphhocdkabGreatDoor
