/-The law Primary, proved: for every configuration, and every other argument, that can be read the law answers true (both bid at once, station 0 bids again, station 1 says yes, station 0's message comes over first), and nothing that was in memory has changed; the library's three tables are as the program's text lays them (tied). -/
import Derived.Test.YtlbpjcphhocdkabGreatDoorGPri
import Derived.Test.YtlbpjcphhocdkabGreatDoorTie
import Derived.Test.YtlbpjcphhocdkabGreatDoorCards
namespace Go.Proofs.YtlbpjcphhocdkabGreatDoor.primary
set_option maxRecDepth 1000000
open Go.ChangeMaps (open_string shut_string)
open Go.ChangeShapes Go.WideShapes Go.ChangeAt Go.RowKit Go.Proofs.YtlbpjcphhocdkabGreatDoor.Mod Go.Proofs.YtlbpjcphhocdkabGreatDoor.Pst Go.Proofs.YtlbpjcphhocdkabGreatDoor.Run
set_option linter.unusedVariables false

set_option maxHeartbeats 8000000 in
theorem walk (a0 a1 a2 a3 a4 a5 a6 a7 a8 a9 : Int) (text other : ByteArray) (w : World) (i0 : I64 a0) (i1 : I64 a1) (i2 : I64 a2) (i3 : I64 a3) (i4 : I64 a4) (i5 : I64 a5) (i6 : I64 a6) (i7 : I64 a7) (i8 : I64 a8) (i9 : I64 a9) (hs1 : text.size ≤ 140737488351300) (hs2 : other.size ≤ 140737488351300) (ht : Tab w w.heap.size) :
    Calls Tryz.prog 3 #[rawV a0 a1 a2 a3 a4 a5 a6 a7 a8 a9, .string text, .string other] w fun e w' => e = .returned (.bool true) ∧ Below w.heap.size w w' := by
  have HF := hide (fun W ht => begin_run a0 a1 a2 a3 a4 a5 a6 a7 a8 a9 false W i0 i1 i2 i3 i4 i5 i6 i7 i8 i9 ht)
  have HT := hide ht
  unfold rawV at *
  clear i0 i1 i2 i3 i4 i5 i6 i7 i8 i9 ht
  go_enter Tryz.func3, Tryz.ntmps3
  go_wp2_with fail
  have B1 := (Below.refl w.heap.size w).alloc (Nat.le_refl _) (.cells #[.int .i64 a0, .int .i64 a1, .int .i64 a2, .int .i64 a3, .int .i64 a4, .int .i64 a5, .int .i64 a6, .int .i64 a7, .int .i64 a8, .int .i64 a9] 23)
  generalize w.alloc (.cells #[.int .i64 a0, .int .i64 a1, .int .i64 a2, .int .i64 a3, .int .i64 a4, .int .i64 a5, .int .i64 a6, .int .i64 a7, .int .i64 a8, .int .i64 a9] 23) = W1 at *
  refine (HF.out W1 ((HT.out.keep fun g hg => B1.block g hg).more B1.size)).mono ?_
  rintro e w1 ⟨A, r, rfl, h1, hB⟩
  have H1 : Hid (Hs w w1 A r) := ⟨h1.1.mono fun g k => Nat.le_trans B1.size k, below_step B1 h1.2⟩
  have S1 := hide (beg_st0 hB)
  clear h1 hB B1 HF
  go_wp2_with fail
  refine (say_h w _ A r 1 _ _ false H1.out S1.out.inv.book (Or.inr rfl) HT.out hs2 (by decide) (by have := S1.out.la; omega) (by have := S1.out.lb; omega)).mono ?_
  rintro e w2 ⟨rfl, m1, hm1, h2⟩
  have S2 := hide (S1.out.say (st := 1) (Or.inr rfl) hm1 (by rw [S1.out.q0.2]; have := S1.out.inv.book.good.c.queue; omega))
  have H2 := hide h2
  clear h2 hm1
  generalize saidR r 1 m1 = r2 at *
  go_wp2_with fail
  refine (say_h w _ A r2 0 _ _ false H2.out S2.out.inv.book (Or.inl rfl) HT.out hs1 (by decide) (by have := S2.out.la; simp at this; omega) (by have := S2.out.lb; simp at this; omega)).mono ?_
  rintro e w3 ⟨rfl, m2, hm2, h3⟩
  have S3 : Hid (∃ i, 1 ≤ i ∧ i ≤ 2 ∧ St0 i 1 (saidR r2 0 m2)) := by
    by_cases hq : (stnOf r2.x 0).queue.length < r2.x.c.queue
    · exact ⟨2, by omega, by omega, S2.out.say (st := 0) (Or.inl rfl) hm2 hq⟩
    · refine ⟨1, by omega, by omega, ?_⟩
      unfold saidR
      rw [if_neg hq]
      exact S2.out
  have H3 := hide h3
  clear h3 hm2 H1 S1 H2 S2
  generalize saidR r2 0 m2 = r3 at *
  obtain ⟨i, hi1, hi2, st3⟩ := S3.out
  have q0 : r3.x.s0.queue ≠ [] := fun e => by have := st3.q0.1; rw [show (stnOf r3.x 0).queue = [] from e] at this; simp at this; omega
  have q1 : r3.x.s1.queue ≠ [] := fun e => by have := st3.q0.2; rw [show (stnOf r3.x 1).queue = [] from e] at this; simp at this
  have F1 := hide (frr_one st3.frr st3.m0 st3.m1 (by rw [st3.r0]; omega) (by rw [st3.r1]; omega) q0 q1)
  have Q0 := hide q0
  have Q1 := hide q1
  have ST := hide st3
  have FG3 : Hid (Fg 5 r3) := ⟨st3.ok, st3.fits, by have := st3.la; omega, by have := st3.lb; omega⟩
  clear S3 hi1 hi2 st3 q0 q1
  go_wp2_with fail
  refine (tick_h w _ A r3 H3.out ST.out.inv.book (inv_tick ST.out.inv).1 (by have := FG3.out.la; omega) (by have := FG3.out.lb; omega)).mono ?_
  rintro e w4 ⟨v, rfl, hv, h4, _⟩
  have H4 := hide h4
  have FG4 := hide (FG3.out.tick ST.out.inv)
  clear hv h4
  go_wp2_with fail
  refine (both_h w _ A _ _ _ H4.out (bid_bytes F1.out.2.1) (bid_bytes F1.out.2.2.1)).mono ?_
  rintro e w5 ⟨rfl, h5⟩
  have SM := F1.out.2.2.2
  have HP : Hid (PrF w A 1 w5) := ⟨_, _, _, _, h5, F1.out.1, FG4.out, by rw [SM.2.2.2.2.2.1], by rw [SM.2.2.2.2.2.2.1]; exact Q0.out, by rw [SM.2.2.2.2.2.2.2]; exact Q1.out, by rw [SM.2.1]; exact ST.out.t1, by have := F1.out.1.fr.cam.cal.inv.book.good.c.first; omega⟩
  clear h5 SM H4 F1 FG4 FG3 ST Q0 Q1 H3
  go_wp2
  go_loopw [8, 9] (fun o i wr => o = .bool true ∧ ∃ k : Nat, i = .int .i64 k ∧ k ≤ 20 ∧ Hid (PrF w A k wr)) (fun _ i _ => 20 - (intOf i).toNat)
  case atStart => exact ⟨rfl, 1, rfl, by omega, HP⟩
  case round =>
    obtain ⟨rfl, k, rfl, hk, HR⟩ := hrel
    obtain ⟨r1, p0, p1, T, hH, hF, hG, hn, q0, q1, tb, hkf⟩ := HR.out
    obtain ⟨_, k5, _⟩ := hH.1.cfg
    have hf20 : r1.x.c.first < 20 := by have := hF.fr.cam.cal.inv.book.good.c.second; omega
    have hlo1 := hG.la
    have hlo2 := hG.lb
    have hin := hF.fr.cam.cal.inv
    by_cases hlt : k < r1.x.c.first
    · have hlt' : (k : Int) < (r1.x.c.first : Int) := by omega
      obtain ⟨f1, f2, f3, f4⟩ := hF.quiet (by omega) q0 q1
      have FF := hide (And.intro f1 (And.intro f2 (And.intro f3 f4)))
      have HH := hide hH
      have HG := hide hG
      have HI := hide hin
      have HQ := hide (And.intro hn (And.intro q0 (And.intro q1 tb)))
      clear hH hF hG hn q0 q1 tb hin f1 f2 f3 f4 HR HP
      go_wp2_with fail
      refine (tick_h w _ A r1 HH.out HI.out.book (inv_tick HI.out).1 (by omega) (by omega)).mono ?_
      rintro e w6 ⟨v, rfl, hv, h6, _⟩
      have H6 := hide h6
      clear hv h6
      go_wp2_with fail
      refine (both_h w _ A _ _ _ H6.out (no_bytes FF.out.2.1) (no_bytes FF.out.2.2.1)).mono ?_
      rintro e w7 ⟨rfl, h7⟩
      have HK : Hid (PrF w A (k + 1) w7) := by
        obtain ⟨g1, _, _, g4⟩ := FF.out
        obtain ⟨n1, n2, n3, n4⟩ := HQ.out
        refine ⟨_, _, _, T, h7, g1, HG.out.tick HI.out, ?_, ?_, ?_, ?_, ?_⟩
        · rw [g4.2.2.2.2.2.1]; omega
        · rw [g4.2.2.2.2.2.2.1]; exact n2
        · rw [g4.2.2.2.2.2.2.2]; exact n3
        · rw [g4.2.1]; exact n4
        · rw [g4.2.2.2.2.1]; omega
      clear h7 H6
      go_wp2
      go_roundw
      case rel => exact ⟨rfl, k + 1, by go_num, by omega, HK⟩
      case measure => simp [intOf]; omega
    · have hlt' : ¬ (k : Int) < (r1.x.c.first : Int) := by omega
      obtain ⟨f1, f2, f3, f4⟩ := hF.again (by omega) q0 q1
      have q0' : (tkR r1).x.s0.queue ≠ [] := by rw [f4.2.2.2.2.2.2.1]; exact q0
      have q1' : (tkR r1).x.s1.queue ≠ [] := by rw [f4.2.2.2.2.2.2.2]; exact q1
      obtain ⟨e1, e2, e3, e4⟩ := f1.said q0' q1'
      have hin2 := f1.fr.cam.cal.inv
      have hG2 := hG.tick hin
      have hG3 := hG2.tick hin2
      have HPL : Hid (PL (tkR (tkR r1)) (boundN (tkR (tkR r1)))) := by
        obtain ⟨p0', p1', fr⟩ := e1
        have hb := fr.cam.cal.inv.book
        refine PL.start fr ?_ ?_ (by rw [e4.2.1, f4.2.1]; exact tb)
        · have := hb.a.lt (by rw [e4.2.2.2.2.2.2.1]; exact q0'); omega
        · have := hb.b.lt (by rw [e4.2.2.2.2.2.2.2]; exact q1'); omega
      have FF := hide (And.intro f2 f3)
      have EE := hide (And.intro e2 e3)
      have HH := hide hH
      have HI := hide hin
      have HI2 := hide hin2
      have HG2 := hide hG2
      have HG3 := hide hG3
      clear hH hF hG hn q0 q1 tb hin f1 f2 f3 f4 HR HP q0' q1' e1 e2 e3 e4 hin2 hG2 hG3
      go_wp2_with fail
      refine (tick_h w _ A r1 HH.out HI.out.book (inv_tick HI.out).1 (by omega) (by omega)).mono ?_
      rintro e w6 ⟨v, rfl, hv, h6, _⟩
      have H6 := hide h6
      clear hv h6
      go_wp2_with fail
      refine (both_h w _ A _ _ _ H6.out (bid_bytes FF.out.1) (no_bytes FF.out.2)).mono ?_
      rintro e w7 ⟨rfl, h7⟩
      have H7 := hide h7
      clear h7 H6
      go_wp2_with fail
      refine (tick_h w _ A _ H7.out HI2.out.book (inv_tick HI2.out).1 (by have := HG2.out.la; omega) (by have := HG2.out.lb; omega)).mono ?_
      rintro e w8 ⟨v, rfl, hv, h8, _⟩
      have H8 := hide h8
      clear hv h8 H7
      go_wp2_with fail
      refine (both_h w _ A _ _ _ H8.out (no_bytes EE.out.1) (yes_bytes EE.out.2)).mono ?_
      rintro e w9 ⟨rfl, h9⟩
      have H9 := hide h9
      clear h9 H8
      go_wp2_with fail
      refine (bound_h w _ A _ H9.out HPL.out.cal.inv.book (by have := HG3.out.la; omega) (by have := HG3.out.lb; omega)).mono ?_
      rintro e w10 ⟨rfl, nd, rfl⟩
      have hbd := Run.Book.bound HPL.out.cal.inv.book
      have HS : Hid (PrL w A (boundN (tkR (tkR r1))) (w9.drewN nd)) := ⟨_, H9.out.drewN nd, HG3.out, HPL.out⟩
      generalize boundN (tkR (tkR r1)) = B at *
      generalize w9.drewN nd = W10 at *
      clear HPL H9 HG3 HG2 HI2 HI EE FF HH
      go_wp2
      go_loopw [13] (fun i wr => ∃ k : Nat, i = .int .i64 k ∧ k ≤ 100000 ∧ Hid (PrL w A k wr)) (fun i _ => (intOf i).toNat)
      case atStart => exact ⟨B, rfl, hbd, HS⟩
      case round =>
        obtain ⟨kk, rfl, hkk, HR⟩ := hrel
        obtain ⟨r2, hH, hG, hL⟩ := HR.out
        have hpos := hL.pos
        obtain ⟨k', rfl⟩ : ∃ k', kk = k' + 1 := ⟨kk - 1, by omega⟩
        have hk0 : (0 : Int) < ((k' + 1 : Nat) : Int) := by omega
        obtain ⟨_, _, _, _, _, _, c16, c17, _⟩ := hH.1.cells
        rw [hG.ok] at c16
        rw [hG.fits] at c17
        have la := hG.la
        have lb := hG.lb
        have wk : IntKind.i64.wrap (((k' + 1 : Nat) : Int) - 1) = k' := by rw [IntKind.wrap_i64]; omega
        have HH := hide hH
        have HG := hide hG
        have HL := hide hL
        clear hH hG hL hpos HR HS
        go_wp2_with fail
        refine (left_h w _ A r2 HH.out HL.out.cal.inv.book (by omega) (by omega)).mono ?_
        rintro e w7 ⟨rfl, nd, rfl⟩
        by_cases hl0 : 0 < leftN r2
        · have hl0' : (0 : Int) < (leftN r2 : Int) := by omega
          have HH2 := hide (HH.out.drewN nd)
          have HLL := hide (HL.out.step hl0)
          clear hl0 c16 c17
          generalize leftN r2 = L at *
          go_wp2_with fail
          refine (tick_h w _ A r2 HH2.out HL.out.cal.inv.book (inv_tick HL.out.cal.inv).1 (by omega) (by omega)).mono ?_
          rintro e w8 ⟨v, rfl, hv, h8, _⟩
          have HK : Hid (PrL w A k' w8) := ⟨_, h8, HG.out.tick HL.out.cal.inv, HLL.out.1⟩
          obtain ⟨_, c11, c12, _⟩ := h8.1.cells
          obtain ⟨m1, _, _, m4, _, _⟩ := h8.marks
          have htt : ((tkR r2).a.told = 0 ∧ (tkR r2).b.told = 0) ∨ ((tkR r2).a.told ≠ 0 ∧ 0 < (tkR r2).b.told) ∨ ((tkR r2).a.told ≠ 0 ∧ (tkR r2).b.told = 0) := by
            have := HLL.out.1.turn
            omega
          have htt0 := hide (fun (e : Ev) (l : List Ev) => prim_ev (e := e) (l := l) HL.out.cal.inv HLL.out.2)
          have hln : (events r2.x).length ≤ 2 := (inv_tick HL.out.cal.inv).1.len
          obtain ⟨va, vcap, hve⟩ := hv.form
          cases hE : events r2.x with
          | nil =>
            rw [hE] at hve
            simp only [List.length_nil] at hve
            subst hve
            clear hv h8 hln hE HH2 HLL
            rcases htt with ⟨tA, tB⟩ | ⟨tA, tB⟩ | ⟨tA, tB⟩
            · rw [tA] at m1
              rw [tB] at m4
              clear tA tB htt0
              go_wp2
              go_roundw
              case rel => exact ⟨k', by go_num, by omega, HK⟩
              case measure => simp [intOf]
            · have dA : (((tkR r2).a.told : Int) == 0) = false := by simp; omega
              have dB : (0 : Int) < ((tkR r2).b.told : Int) := by omega
              clear tA tB htt0
              go_wp2
              go_roundw
              case rel => exact ⟨k', by go_num, by omega, HK⟩
              case measure => simp [intOf]
            · have dA : (((tkR r2).a.told : Int) == 0) = false := by simp; omega
              rw [tB] at m4
              clear tA tB htt0
              go_wp2
              go_roundw
              case rel => exact ⟨k', by go_num, by omega, HK⟩
              case measure => simp [intOf]
          | cons ev rest =>
            have hne : events r2.x ≠ [] := by rw [hE]; simp
            obtain ⟨g, cap2, eg, _, hgl, hgc⟩ := hv.at' hne
            have g0 := hgc 0 (by rw [hE]; simp) 0 (by omega)
            have g1 := hgc 0 (by rw [hE]; simp) 1 (by omega)
            rw [hE] at g0 g1 hve eg hln
            simp only [evCells, List.getElem?_cons_zero, List.getElem?_cons_succ, List.getD_cons_zero, Nat.zero_mul, Nat.zero_add] at g0 g1
            simp only [List.length_cons] at hve eg hln
            have hl1 : (0 : Int) < ((rest.length + 1 : Nat) : Int) := by omega
            rw [eg]
            by_cases ke : ev.kind = 1
            · have HSt : Hid ((tkR r2).a.told = 0 → ev.station = 1) := fun t0 => htt0.out ev rest hE ke t0
              rw [ke] at g0
              clear hv h8 hE HH2 HLL hgc hne hve eg ke
              rcases htt with ⟨tA, tB⟩ | ⟨tA, tB⟩ | ⟨tA, tB⟩
              · have hs := HSt.out tA
                rw [hs] at g1
                clear hs
                rw [tA] at m1
                rw [tB] at m4
                clear tA tB htt0 HSt
                go_wp2
                go_roundw
                case rel => exact ⟨k', by go_num, by omega, HK⟩
                case measure => simp [intOf]
              · have dA : (((tkR r2).a.told : Int) == 0) = false := by simp; omega
                have dB : (0 : Int) < ((tkR r2).b.told : Int) := by omega
                clear tA tB htt0 HSt
                go_wp2
                go_roundw
                case rel => exact ⟨k', by go_num, by omega, HK⟩
                case measure => simp [intOf]
              · have dA : (((tkR r2).a.told : Int) == 0) = false := by simp; omega
                rw [tB] at m4
                clear tA tB htt0 HSt
                go_wp2
                go_roundw
                case rel => exact ⟨k', by go_num, by omega, HK⟩
                case measure => simp [intOf]
            · have dk : ((ev.kind : Int) == 1) = false := by simp; omega
              clear hv h8 hE HH2 HLL hgc hne hve eg ke
              rcases htt with ⟨tA, tB⟩ | ⟨tA, tB⟩ | ⟨tA, tB⟩
              · rw [tA] at m1
                rw [tB] at m4
                clear tA tB htt0
                go_wp2
                go_roundw
                case rel => exact ⟨k', by go_num, by omega, HK⟩
                case measure => simp [intOf]
              · have dA : (((tkR r2).a.told : Int) == 0) = false := by simp; omega
                have dB : (0 : Int) < ((tkR r2).b.told : Int) := by omega
                clear tA tB htt0
                go_wp2
                go_roundw
                case rel => exact ⟨k', by go_num, by omega, HK⟩
                case measure => simp [intOf]
              · have dA : (((tkR r2).a.told : Int) == 0) = false := by simp; omega
                rw [tB] at m4
                clear tA tB htt0
                go_wp2
                go_roundw
                case rel => exact ⟨k', by go_num, by omega, HK⟩
                case measure => simp [intOf]
        · have hl0' : ¬ (0 : Int) < (leftN r2 : Int) := by omega
          have hz : leftN r2 = 0 := by omega
          have HH2 := hide (HH.out.drewN nd)
          have HZ := hide hz
          have HB := hide (fun m => (show Below w.heap.size w (World.drewN _ m) from below_drewN HH.out.2 m))
          clear hl0 hz hl0'
          rw [HZ.out]
          go_wp2_with fail
          refine (left_h w _ A r2 HH2.out HL.out.cal.inv.book (by omega) (by omega)).mono ?_
          rintro e w9 ⟨rfl, nd', rfl⟩
          rw [HZ.out]
          go_wp2
          go_ret
          exact ⟨rfl, HB.out _⟩

theorem lifted (os : Os) (started : os.Started) (H : Type) (enc : TypeId × Value → H) :
    ReturnsInHanded {} Tryz.checked os 3 .any (fun w args => (Rows.primarySpec.pre enc Tryz.prog Tryz.f3 [] false w args ∧ laidMetH Tryz.prog laid3 w) ∧ sizedMet enc Tryz.prog Tryz.f3 (OpenSpec.ofChange Rows.primarySpec) false w args)
      (Rows.primarySpec.post enc Tryz.prog Tryz.f3 false true false false) := by
  refine returnsInHanded_of_change_and (C := Tryz.checked) (X := fun w _ => laidMetH Tryz.prog laid3 w) (fun _ _ _ hh h => h.of_heap hh) own started (by kernel_rfl) Tryz.func3
    (ChangeSpec.witness_shaped (enc := enc) (C := Tryz.checked) (os := os) (X := fun w _ => laidMetH Tryz.prog laid3 w) false (World.doorLaid Tryz.prog 400 os) #[.agg #[.int .i64 0, .int .i64 0, .int .i64 0, .int .i64 0, .int .i64 0, .int .i64 0, .int .i64 0, .int .i64 0, .int .i64 0, .int .i64 0], .string ByteArray.empty, .string ByteArray.empty] 8 rfl (World.shaped_of_RefB (by kernel_rfl) (by kernel_rfl)) (by kernel_rfl) (by kernel_rfl) (by kernel_rfl) (door_met os _)) ?_
  intro W base args ds gs before hval0 hW hcnd hsz0 hL _
  have hval : ∀ (j : Nat) t v, Tryz.f3.params[j]? = some t → args[j]? = some v → Value.okWide Tryz.prog W .any base t v := hval0
  have hsz : (DataW.weightsEach Tryz.prog (Tryz.f3.params.toList ++ Rows.primarySpec.plain.varTypes Tryz.prog) (ds ++ gs)).all (· ≤ reachBytes) = true := hsz0
  have hW' := hW
  obtain ⟨p, q, hA0, hV, rfl, hfz, hnd⟩ := hW
  have hA : DataW.TrodAll enc Tryz.prog W 0 (fun _ => true) true Tryz.f3.params.toList args.toList ds p := hA0
  rw [Tryz.params3] at hA hval hsz
  obtain ⟨v0, vs0, d0, ds0, p0, q0, hargs, rfl, rfl, h0, r0⟩ := trodAll_cons hA
  obtain ⟨v1, vs1, d1, ds1, p1, q1, rfl, rfl, rfl, h1, r1⟩ := trodAll_cons r0
  obtain ⟨v2, vs2, d2, ds2, p2, q2, rfl, rfl, rfl, h2, r2⟩ := trodAll_cons r1
  obtain ⟨rfl, rfl, rfl⟩ := trodAll_nil r2
  obtain rfl : args = #[v0, v1, v2] := by cases args; simp_all
  obtain ⟨rfl, rfl⟩ := trodVars_none hV
  have k0 := h0
  have lt0 : ∀ x ∈ p0, x.block < W.heap.size := by obtain ⟨m, hm⟩ := k0; exact DataW.trod_lt m _ _ _ hm
  obtain ⟨a0, a1, a2, a3, a4, a5, a6, a7, a8, a9, rfl, i0, i1, i2, i3, i4, i5, i6, i7, i8, i9⟩ := open_cfg (hval 0 23 v0 rfl rfl) h0
  obtain ⟨x1, rfl, rfl, rfl, z1⟩ := open_string Tryz.underlying9 (hval 1 9 v1 rfl rfl) h1
  have b1 := string_reach (j := 1) hsz rfl rfl
  obtain ⟨x2, rfl, rfl, rfl, z2⟩ := open_string Tryz.underlying9 (hval 2 9 v2 rfl rfl) h2
  have b2 := string_reach (j := 2) hsz rfl rfl
  have hT := of_laid hL
  clear hA0 hval0 hsz0 hsz
  refine (walk a0 a1 a2 a3 a4 a5 a6 a7 a8 a9 x1 x2 W i0 i1 i2 i3 i4 i5 i6 i7 i8 i9 (by omega) (by omega) hT).mono fun e W' ⟨he, bel⟩ => ?_
  subst he
  exact ⟨_, rfl, _, _, _, [], _, [], hW', trodAll_mk1 (shut_bool Tryz.underlying4 _), (trodAll_cons_mk (Below.trod laidOut (by kernel_rfl) (of_decide_eq_true (by kernel_rfl)) k0 bel lt0) (trodAll_cons_mk (shut_string Tryz.underlying9 z1) (trodAll_cons_mk (shut_string Tryz.underlying9 z2) trodAll_mk0))), rfl, bel.frame _, fun h => by cases h⟩

theorem over : Rows.primaryRow.holds Tryz.pinned (OpenSpec.ofChange Rows.primarySpec) :=
  OpenClaim.holds_of_wide 3 Tryz.f3 rfl rfl rfl rfl rfl rfl rfl ⟨rfl, rfl, rfl, rfl, rfl⟩ rfl rfl rfl rfl rfl (by kernel_rfl) Tryz.func3 (by kernel_rfl)
    (of_decide_eq_true (by kernel_rfl)) (by unfold Func.isWrapper; first | (rw [if_pos (by decide +kernel)]; kernel_rfl) | (rw [if_neg (by decide +kernel)]; exact ⟨rfl, rfl⟩))
    (fun os started H enc _ => lifted os started H enc)
end Go.Proofs.YtlbpjcphhocdkabGreatDoor.primary
namespace Go.Proofs.YtlbpjcphhocdkabGreatDoor
theorem primary_holds : Rows.PrimaryCardSaid :=
  Claim7.holds_tied_plain_at .later [] [.data, .data, .data] true (true, "83546ea0d44c0dbf0d10714a4aa846266200a9a0f88a82075b26f9612e90402b") false
    primary.over (fun _ h => by cases h) (by kernel_rfl) (fun _ h => by cases h) primary_row_tie rfl ⟨rfl, rfl⟩ (by kernel_rfl) rfl
    (fun f fn hf hfn => by
      obtain rfl : f = 3 := Option.some.inj ((show Tryz.prog.funcNamed "duplex/duplexkeep.Primary" = some 3 by kernel_rfl).symm.trans hf) |>.symm
      obtain rfl : fn = Tryz.f3 := (Option.some.inj (Tryz.func3.symm.trans hfn)).symm
      exact ⟨by kernel_rfl, fun j t ht => by
        rw [Tryz.params3] at ht
        rcases j with _ | _ | _ | j
        · obtain rfl : 23 = t := by simpa using ht
          kernel_rfl
        · obtain rfl : 9 = t := by simpa using ht
          kernel_rfl
        · obtain rfl : 9 = t := by simpa using ht
          kernel_rfl
        · simp at ht⟩)
    (by kernel_rfl)
#print axioms primary_holds
end Go.Proofs.YtlbpjcphhocdkabGreatDoor
