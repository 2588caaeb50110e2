/-The calm: all messages are told of in time. -/
import Derived.Test.YtlbpjcphhocdkabGreatDoorGKg
namespace Go.Proofs.YtlbpjcphhocdkabGreatDoor
set_option maxRecDepth 1000000
open Go.RowKit Go.Proofs.YtlbpjcphhocdkabGreatDoor.Mod Go.Proofs.YtlbpjcphhocdkabGreatDoor.Pst Go.Proofs.YtlbpjcphhocdkabGreatDoor.Run

def Tse (A : RA) (a : Act) : Prop := a.defers = [] ∧ a.tmps = List.toArray (.pointer (some ⟨A.rb, 0, none⟩) :: a.tmps.getD 1 undef :: .bool false :: .int .i64 0 :: .int .i64 0 :: a.tmps.getD 5 undef :: a.tmps.getD 6 undef :: a.tmps.getD 7 undef :: a.tmps.getD 8 undef :: a.tmps.getD 9 undef :: a.tmps.getD 10 undef :: a.tmps.getD 11 undef :: a.tmps.getD 12 undef :: a.tmps.getD 13 undef :: a.tmps.getD 14 undef :: a.tmps.getD 15 undef :: a.tmps.getD 16 undef :: a.tmps.getD 17 undef :: a.tmps.getD 18 undef :: a.tmps.getD 19 undef :: a.tmps.getD 20 undef :: a.tmps.getD 21 undef :: a.tmps.getD 22 undef :: a.tmps.getD 23 undef :: a.tmps.getD 24 undef :: a.tmps.getD 25 undef :: a.tmps.getD 26 undef :: a.tmps.getD 27 undef :: a.tmps.getD 28 undef :: a.tmps.getD 29 undef :: a.tmps.getD 30 undef :: a.tmps.getD 31 undef :: a.tmps.getD 32 undef :: a.tmps.getD 33 undef :: a.tmps.getD 34 undef :: a.tmps.getD 35 undef :: a.tmps.getD 36 undef :: a.tmps.getD 37 undef :: a.tmps.getD 38 undef :: a.tmps.getD 39 undef :: a.tmps.getD 40 undef :: a.tmps.getD 41 undef :: a.tmps.getD 42 undef :: a.tmps.getD 43 undef :: a.tmps.getD 44 undef :: a.tmps.getD 45 undef :: a.tmps.getD 46 undef :: a.tmps.getD 47 undef :: a.tmps.getD 48 undef :: a.tmps.getD 49 undef :: a.tmps.getD 50 undef :: a.tmps.getD 51 undef :: a.tmps.getD 52 undef :: a.tmps.getD 53 undef :: a.tmps.getD 54 undef :: a.tmps.getD 55 undef :: a.tmps.getD 56 undef :: a.tmps.getD 57 undef :: a.tmps.getD 58 undef :: a.tmps.getD 59 undef :: a.tmps.getD 60 undef :: a.tmps.getD 61 undef :: a.tmps.getD 62 undef :: a.tmps.getD 63 undef :: a.tmps.getD 64 undef :: a.tmps.getD 65 undef :: a.tmps.getD 66 undef :: a.tmps.getD 67 undef :: a.tmps.getD 68 undef :: a.tmps.getD 69 undef :: a.tmps.getD 70 undef :: a.tmps.getD 71 undef :: a.tmps.getD 72 undef :: a.tmps.getD 73 undef :: a.tmps.getD 74 undef :: [])
theorem Tse.use {A : RA} {a : Act} (h : Tse A a) : ∃ u : Nat → Value, a = { tmps := List.toArray (.pointer (some ⟨A.rb, 0, none⟩) :: u 1 :: .bool false :: .int .i64 0 :: .int .i64 0 :: u 5 :: u 6 :: u 7 :: u 8 :: u 9 :: u 10 :: u 11 :: u 12 :: u 13 :: u 14 :: u 15 :: u 16 :: u 17 :: u 18 :: u 19 :: u 20 :: u 21 :: u 22 :: u 23 :: u 24 :: u 25 :: u 26 :: u 27 :: u 28 :: u 29 :: u 30 :: u 31 :: u 32 :: u 33 :: u 34 :: u 35 :: u 36 :: u 37 :: u 38 :: u 39 :: u 40 :: u 41 :: u 42 :: u 43 :: u 44 :: u 45 :: u 46 :: u 47 :: u 48 :: u 49 :: u 50 :: u 51 :: u 52 :: u 53 :: u 54 :: u 55 :: u 56 :: u 57 :: u 58 :: u 59 :: u 60 :: u 61 :: u 62 :: u 63 :: u 64 :: u 65 :: u 66 :: u 67 :: u 68 :: u 69 :: u 70 :: u 71 :: u 72 :: u 73 :: u 74 :: []), defers := [] } := ⟨fun i => a.tmps.getD i undef, by obtain ⟨h1, h2⟩ := h; cases a; simp only at h1 h2; subst h1; exact congrArg (fun t => ({ tmps := t, defers := [] } : Act)) h2⟩

theorem Hs.flag {w0 W : World} {A : RA} {r : R} (h : Hs w0 W A r) (k : Nat) (v : Value) (r' : R) (hx : r'.x = r.x) (ha : r'.a = r.a) (hb : r'.b = r.b) (hr : (rcells A r).setIfInBounds k v = rcells A r') : Hs w0 (W.setCell ⟨A.rb, k, none⟩ v) A r' := by
  obtain ⟨h1, h2⟩ := h.1.setFlag (Fr.refl _ W) k v r' hx ha hb hr
  exact ⟨h1, h2.toBelow h.2 fun g k => k⟩
theorem Hs.mark {w0 W : World} {A : RA} {r : R} (h : Hs w0 W A r) (st : Int) (x : Nat) : Hs w0 (W.setCell ⟨sideB A st, 3, none⟩ (.int .i64 x)) A (setSide r st { sideOf r st with mark := x }) := by
  obtain ⟨⟨col, hC, hS⟩, hb⟩ := h
  have hc := hC.setS st 3 (.int .i64 x) { sideOf r st with mark := x } (fun F hn hs => hs.mark' hn x)
  have hs := (hC.side st).2
  have hSs := hS (sideB A st) (by rw [hs]; split <;> decide)
  refine ⟨⟨col, hc, fun g hg => ⟨(hS g hg).1, by simpa using (hS g hg).2⟩⟩, ?_⟩
  exact ⟨hb.os, hb.tape, hb.output, by simpa using hb.size, fun g hg => by rw [Below.heap_setCell _ _ _ _ (fun e => by have e' : g = sideB A st := e; have := hSs.1; omega)]; exact hb.block g hg⟩

theorem Hs.drew {w0 W : World} {A : RA} {r : R} (h : Hs w0 W A r) : Hs w0 W.drew A r := h.below (Below.drew (Below.refl _ _))
theorem Hs.marks {w0 W : World} {A : RA} {r : R} (h : Hs w0 W A r) : W.cell? ⟨A.ab, 1, none⟩ = some (.int .i64 r.a.told) ∧ W.cell? ⟨A.ab, 3, none⟩ = some (.int .i64 r.a.mark) ∧ W.frozen? ⟨A.ab, 3, none⟩ = false ∧ W.cell? ⟨A.bb, 1, none⟩ = some (.int .i64 r.b.told) ∧ W.cell? ⟨A.bb, 3, none⟩ = some (.int .i64 r.b.mark) ∧ W.frozen? ⟨A.bb, 3, none⟩ = false := by
  obtain ⟨⟨col, hC, _⟩, _⟩ := h
  obtain ⟨_, a1, _, a3, af⟩ := hC.sa.all
  obtain ⟨_, b1, _, b3, bf⟩ := hC.sb.all
  exact ⟨a1, a3, af 3, b1, b3, bf 3⟩
theorem blks_le (l : List Msg) (h : ∀ m ∈ l, m.text.length ≤ 200) : blksN l ≤ l.length * 201 := by
  induction l with
  | nil => exact Nat.zero_le _
  | cons m l ih =>
    have h1 := ih fun x hx => h x (List.mem_cons_of_mem _ hx)
    have h2 := h m List.mem_cons_self
    unfold blksN at h1 ⊢
    simp only [List.map_cons, List.sum_cons, List.length_cons]
    omega
theorem Run.SBook.blks {c : Cfg} {now : Nat} {s : Stn} {d : Side} (h : SBook s d) (hb : StB c now s) : blksN (d.want.drop d.told) ≤ 1608 := by
  have h1 := blks_le (d.want.drop d.told) (fun m hm => (h.f m (List.mem_of_mem_drop hm)).2.1)
  have h2 := hb.qlen
  rw [h.q] at h2
  omega
theorem Run.Book.left {r : R} (h : Book r) : leftN r ≤ 16 := by
  rw [left_q h]
  have := h.good.b0.qlen
  have := h.good.b1.qlen
  omega
theorem turn_le {c : Cfg} (hc : c.Ok) : turnN c ≤ 600 := by
  have h1 := hc.lost
  have h2 := hc.second
  have h3 := hc.reply
  have h4 := hc.tries
  have := Nat.mul_le_mul (show c.tries + 4 ≤ 11 by omega) h3.2
  unfold turnN
  omega
theorem Run.Book.bound {r : R} (h : Book r) : boundN r ≤ 100000 := by
  have h1 := h.left
  have h2 := turn_le h.good.c
  have h3 := h.a.blks h.good.b0
  have h4 := h.b.blks h.good.b1
  have := Nat.mul_le_mul (show leftN r + 2 ≤ 18 by omega) h2
  unfold boundN
  omega

theorem Tab.more {w : World} {n m : Nat} (h : Tab w n) (k : n ≤ m) : Tab w m := ⟨h.1, fun g e => Nat.lt_of_lt_of_le (h.2 g e) k⟩
/-- In the calm. -/
structure SP (n : Nat) (r : R) : Prop where
  ok : r.ok = true
  fits : r.fits = true
  token : r.token = true
  fresh : r.fresh = true
  la : r.a.want.length ≤ n
  lb : r.b.want.length ≤ n
theorem SP.tick {n : Nat} {r : R} (h : SP n r) (hi : Inv r) (hf : (tkR r).fresh = r.fresh) : SP n (tkR r) := by
  obtain ⟨_, t, _, tk, _⟩ := inv_tick hi
  exact ⟨t.ok.trans h.ok, t.fits.trans h.fits, tk.trans h.token, hf.trans h.fresh, by rw [t.a, sideN_want]; exact h.la, by rw [t.b, sideN_want]; exact h.lb⟩
def StR (w0 : World) (A : RA) (n k : Nat) (W : World) : Prop := ∃ r, Hs w0 W A r ∧ SP n r ∧ Lp r k
def StE (w0 : World) (A : RA) (n : Nat) (W : World) : Prop := ∃ r, Hs w0 W A r ∧ SP n r ∧ Cal r ∧ leftN r = 0
def StM (w0 : World) (A : RA) (r' : R) (a : Act) (W : World) : Prop := Tse A a ∧ Hs w0 W A r'

theorem left_h (w0 W : World) (A : RA) (r : R) (h : Hs w0 W A r) (hb : Book r) (la : r.a.want.length ≤ 1000000000000000) (lb : r.b.want.length ≤ 1000000000000000) :
    Calls Tryz.prog 15 #[.pointer (some ⟨A.rb, 0, none⟩)] W fun e w' => e = .returned (.int .i64 (leftN r)) ∧ ∃ n, w' = W.drewN n := left_run _ A r W h.1 hb.a.t hb.b.t la lb
theorem bound_h (w0 W : World) (A : RA) (r : R) (h : Hs w0 W A r) (hb : Book r) (la : r.a.want.length ≤ 1000000000000000) (lb : r.b.want.length ≤ 1000000000000000) :
    Calls Tryz.prog 14 #[.pointer (some ⟨A.rb, 0, none⟩)] W fun e w' => e = .returned (.int .i64 (boundN r)) ∧ ∃ n, w' = W.drewN n := by
  have h3 := hb.a.blks hb.good.b0
  have h4 := hb.b.blks hb.good.b1
  exact bound_run _ A r W h.1 hb.good.c hb.a.t hb.b.t la lb (by have := hb.left; omega) (by omega) (by omega) (fun m hm => (hb.a.f m hm).2.1) (fun m hm => (hb.b.f m hm).2.1)
theorem busy_h (w0 W : World) (A : RA) (r : R) (st : Int) (on : Bool) (h : Hs w0 W A r) (hst : st = 0 ∨ st = 1) :
    Calls Tryz.prog 34 #[.pointer (some ⟨A.xb, 0, none⟩), .int .i64 st, .bool on] W fun e w' => e = .returned (.int .i64 0) ∧ Hs w0 w' A { r with x := busyL r.x st on } := by
  refine (busied_run _ A r st on W h.1).mono ?_
  rintro e w' ⟨rfl, h1, hf⟩
  exact ⟨by unfold busyE; rw [if_pos hst], Hs.plus h.2 (fun g k => k) h1 hf⟩

set_option maxHeartbeats 8000000 in
theorem settle_run (w0 : World) (A : RA) (n : Nat) (r : R) (W : World) (h : Hs w0 W A r) (hp : PI false n r) (hn : n ≤ 3000000000000) :
    Calls Tryz.prog 32 #[.pointer (some ⟨A.rb, 0, none⟩)] W fun e w' => e = .returned (.bool true) ∧ StE w0 A n w' := by
  obtain ⟨c0, _⟩ := h.1.cells
  have HH := hide h
  have HPI := hide hp
  have hrb := h.1.lt.1
  clear h hp
  go_enter Tryz.func32, Tryz.ntmps32
  go_wp2_with fail
  refine (busy_h w0 _ A r 0 false HH.out (Or.inl rfl)).mono ?_
  rintro e w1 ⟨rfl, h1⟩
  obtain ⟨d0, _⟩ := h1.1.cells
  have H1 := hide h1
  clear h1 c0
  go_wp2_with fail
  refine (busy_h w0 _ A _ 1 false H1.out (Or.inr rfl)).mono ?_
  rintro e w2 ⟨rfl, h2⟩
  obtain ⟨_, _, _, _, _, c15, _, _, _, _, fz⟩ := h2.1.cells
  have f15 := fz 15
  have H2 := hide h2
  clear h2 d0 fz
  have HC := hide (H2.out.flag 15 (.bool true) { r with x := busyL (busyL r.x 0 false) 1 false, calm := true } rfl rfl rfl rfl)
  go_wp2_with fail
  refine wp_at (fun W => Hs w0 W A { r with x := busyL (busyL r.x 0 false) 1 false, calm := true }) HC.out ?_
  clear c15 f15 HC H2 H1
  intro W3 h3
  obtain ⟨_, c11, c12, _⟩ := h3.1.cells
  obtain ⟨t1, t3, tf, _⟩ := h3.marks
  have H3 := hide h3
  clear h3
  refine region_only (StM w0 A { r with x := busyL (busyL r.x 0 false) 1 false, calm := true, a := { r.a with mark := r.a.told } }) ?_ ?_
  · go_region
    all_goals first | exact ⟨⟨rfl, rfl⟩, H3.out.mark 0 r.a.told⟩ | exact ⟨⟨rfl, rfl⟩, (H3.out.mark 0 r.a.told).drew⟩ | exact ⟨⟨rfl, rfl⟩, (H3.out.mark 0 r.a.told).drew.drew⟩
  rintro a4 W4 ⟨htk, h4⟩
  obtain ⟨u, rfl⟩ := htk.use
  clear c11 c12 t1 t3 tf htk H3
  obtain ⟨_, c11, c12, _⟩ := h4.1.cells
  obtain ⟨_, _, _, t1, t3, tf⟩ := h4.marks
  have H4 := hide h4
  clear h4
  go_wp2_with fail
  refine region_only (StM w0 A (calmR r)) ?_ ?_
  · go_region
    all_goals first | exact ⟨⟨rfl, rfl⟩, H4.out.mark 1 r.b.told⟩ | exact ⟨⟨rfl, rfl⟩, (H4.out.mark 1 r.b.told).drew⟩ | exact ⟨⟨rfl, rfl⟩, (H4.out.mark 1 r.b.told).drew.drew⟩
  rintro a5 W5 ⟨htk, h5⟩
  obtain ⟨u, rfl⟩ := htk.use
  clear c11 c12 t1 t3 tf htk H4
  have hcal := calm_cal (HPI.out.inv rfl)
  have H5 := hide h5
  have HL := hide (Lp.start hcal rfl rfl)
  have HSP : Hid (SP n (calmR r)) := ⟨HPI.out.ok, HPI.out.fits, HPI.out.token rfl, HPI.out.fresh, HPI.out.la, HPI.out.lb⟩
  have hbd := Run.Book.bound hcal.inv.book
  clear h5
  go_wp2_with fail
  refine (bound_h w0 _ A (calmR r) H5.out HL.out.cal.inv.book (by have := HSP.out.la; omega) (by have := HSP.out.lb; omega)).mono ?_
  rintro e w6 ⟨rfl, nd, rfl⟩
  have HS6 : Hid (StR w0 A n (boundN (calmR r)) (W5.drewN nd)) := ⟨_, H5.out.drewN nd, HSP.out, HL.out⟩
  generalize boundN (calmR r) = B at *
  generalize W5.drewN nd = W6 at *
  clear hcal HL HSP H5 HPI
  go_wp2
  go_loopw [5] (fun i wr => ∃ k : Nat, i = .int .i64 k ∧ k ≤ 100000 ∧ Hid (StR w0 A n k wr)) (fun i _ => (intOf i).toNat)
  case atStart => exact ⟨B, rfl, hbd, HS6⟩
  case round =>
    obtain ⟨k, rfl, hk, HR⟩ := hrel
    obtain ⟨r1, hH, hS, hL⟩ := HR.out
    have hpos := hL.pos
    obtain ⟨k', rfl⟩ : ∃ k', k = k' + 1 := ⟨k - 1, by omega⟩
    have hk0 : (0 : Int) < ((k' + 1 : Nat) : Int) := by omega
    obtain ⟨_, _, _, _, _, _, c16, _⟩ := hH.1.cells
    rw [hS.ok] at c16
    have HH := hide hH
    have HS := hide hS
    have HL := hide hL
    have la := hS.la
    have lb := hS.lb
    have wk : IntKind.i64.wrap (((k' + 1 : Nat) : Int) - 1) = k' := by rw [IntKind.wrap_i64]; omega
    clear hH hS hL hpos HR HS6
    go_wp2_with fail
    refine (left_h w0 _ A r1 HH.out HL.out.cal.inv.book (by omega) (by omega)).mono ?_
    rintro e w7 ⟨rfl, nd, rfl⟩
    by_cases hl0 : 0 < leftN r1
    · have hl0' : (0 : Int) < (leftN r1 : Int) := by omega
      have HH2 := hide (HH.out.drewN nd)
      have c16' : (World.drewN _ nd).cell? ⟨A.rb, 16, none⟩ = some (.bool true) := c16
      have HLL := hide (HL.out.step hl0)
      clear hl0
      generalize leftN r1 = L at *
      go_wp2_with fail
      refine (tick_h w0 _ A r1 HH2.out HL.out.cal.inv.book (inv_tick HL.out.cal.inv).1 (by omega) (by omega)).mono ?_
      rintro e w8 ⟨v, rfl, hv, h8, _⟩
      have HK : Hid (StR w0 A n k' w8) := ⟨_, h8, HS.out.tick HL.out.cal.inv HLL.out.2, HLL.out.1⟩
      clear hv h8
      go_wp2
      go_roundw
      case rel => exact ⟨k', by go_num, by omega, HK⟩
      case measure => simp [intOf]
    · have hl0' : ¬ (0 : Int) < (leftN r1 : Int) := by omega
      have hz : leftN r1 = 0 := by omega
      have HH2 := hide (HH.out.drewN nd)
      have HK := hide (fun m => (show StE w0 A n (World.drewN _ m) from ⟨r1, HH.out.drewN m, HS.out, HL.out.cal, hz⟩))
      have HZ := hide hz
      clear hl0 hz hl0'
      rw [HZ.out]
      go_wp2_with fail
      refine (left_h w0 _ A r1 HH2.out HL.out.cal.inv.book (by omega) (by omega)).mono ?_
      rintro e w9 ⟨rfl, nd', rfl⟩
      rw [HZ.out]
      go_wp2
      go_ret
      exact ⟨rfl, HK.out _⟩

set_option maxHeartbeats 4000000 in
theorem played_run (a0 a1 a2 a3 a4 a5 a6 a7 a8 a9 : Int) (sa : Option Addr) (cap : Nat) (l : List Stp) (w : World) (i0 : I64 a0) (i1 : I64 a1) (i2 : I64 a2) (i3 : I64 a3) (i4 : I64 a4) (i5 : I64 a5) (i6 : I64 a6) (i7 : I64 a7) (i8 : I64 a8) (i9 : I64 a9) (hs : ScrAt w sa l) (ho : ∀ o ∈ l, StpOk o) (hl : l.length ≤ 2000000000000) (ht : Tab w w.heap.size) :
    Calls Tryz.prog 17 #[rawV a0 a1 a2 a3 a4 a5 a6 a7 a8 a9, .slice sa l.length cap] w fun e w' => ∃ A, e = .returned (.pointer (some ⟨A.rb, 0, none⟩)) ∧ StE w A (l.length + 1) w' := by
  have HF := hide (fun W ht => begin_run a0 a1 a2 a3 a4 a5 a6 a7 a8 a9 false W i0 i1 i2 i3 i4 i5 i6 i7 i8 i9 ht)
  have HT := hide ht
  have HSc := hide hs
  have HO := hide ho
  unfold rawV at *
  clear i0 i1 i2 i3 i4 i5 i6 i7 i8 i9 ht hs ho
  go_enter Tryz.func17, Tryz.ntmps17
  go_wp2_with fail
  have B1 := (Below.refl w.heap.size w).alloc (Nat.le_refl _) (.cells #[.int .i64 a0, .int .i64 a1, .int .i64 a2, .int .i64 a3, .int .i64 a4, .int .i64 a5, .int .i64 a6, .int .i64 a7, .int .i64 a8, .int .i64 a9] 23)
  generalize w.alloc (.cells #[.int .i64 a0, .int .i64 a1, .int .i64 a2, .int .i64 a3, .int .i64 a4, .int .i64 a5, .int .i64 a6, .int .i64 a7, .int .i64 a8, .int .i64 a9] 23) = W1 at *
  refine (HF.out W1 ((HT.out.keep fun g hg => B1.block g hg).more B1.size)).mono ?_
  rintro e w1 ⟨A, r, rfl, h1, hB⟩
  have H1 : Hid (Hs w w1 A r) := ⟨h1.1.mono fun g k => Nat.le_trans B1.size k, below_step B1 h1.2⟩
  have HB := hide hB
  clear h1 hB B1
  go_wp2_with fail
  refine (play_run w A false sa cap l r _ H1.out HB.out.pi HSc.out HO.out hl HT.out).mono ?_
  rintro e w2 ⟨rfl, r2, h2, hp2⟩
  have H2 := hide h2
  have HP2 := hide hp2
  clear h2 hp2
  go_wp2_with fail
  refine (settle_run w A (l.length + 1) r2 _ H2.out HP2.out (by omega)).mono ?_
  rintro e w3 ⟨rfl, h3⟩
  have H3 := hide h3
  clear h3
  go_wp2
  go_ret
  exact ⟨A, rfl, H3.out⟩

end Go.Proofs.YtlbpjcphhocdkabGreatDoor
