/-The law Fair, proved: for every configuration, and every other argument, that can be read the law answers true (without faults the stations take turns, and all messages come over), and nothing that was in memory has changed; the library's three tables are as the program's text lays them (tied). -/
import Derived.Test.YtlbpjcphhocdkabGreatDoorGFai
import Derived.Test.YtlbpjcphhocdkabGreatDoorTie
import Derived.Test.YtlbpjcphhocdkabGreatDoorCards
namespace Go.Proofs.YtlbpjcphhocdkabGreatDoor.fair
set_option maxRecDepth 1000000
open Go.ChangeMaps (open_string shut_string)
open Go.ChangeShapes Go.WideShapes Go.ChangeAt Go.RowKit Go.Proofs.YtlbpjcphhocdkabGreatDoor.Mod Go.Proofs.YtlbpjcphhocdkabGreatDoor.Pst Go.Proofs.YtlbpjcphhocdkabGreatDoor.Run
set_option linter.unusedVariables false

set_option maxHeartbeats 8000000 in
theorem walk (a0 a1 a2 a3 a4 a5 a6 a7 a8 a9 : Int) (many : Int) (text : ByteArray) (w : World) (i0 : I64 a0) (i1 : I64 a1) (i2 : I64 a2) (i3 : I64 a3) (i4 : I64 a4) (i5 : I64 a5) (i6 : I64 a6) (i7 : I64 a7) (i8 : I64 a8) (i9 : I64 a9) (im : I64 many) (hs1 : text.size ≤ 140737488351300) (ht : Tab w w.heap.size) :
    Calls Tryz.prog 4 #[rawV a0 a1 a2 a3 a4 a5 a6 a7 a8 a9, .int .i64 many, .string text] w fun e w' => e = .returned (.bool true) ∧ Below w.heap.size w w' := by
  have HF := hide (fun W ht => begin_run a0 a1 a2 a3 a4 a5 a6 a7 a8 a9 false W i0 i1 i2 i3 i4 i5 i6 i7 i8 i9 ht)
  have HT := hide ht
  have HM := hide im
  unfold rawV at *
  clear i0 i1 i2 i3 i4 i5 i6 i7 i8 i9 ht im
  go_enter Tryz.func4, Tryz.ntmps4
  go_wp2_with fail
  have B1 := (Below.refl w.heap.size w).alloc (Nat.le_refl _) (.cells #[.int .i64 a0, .int .i64 a1, .int .i64 a2, .int .i64 a3, .int .i64 a4, .int .i64 a5, .int .i64 a6, .int .i64 a7, .int .i64 a8, .int .i64 a9] 23)
  generalize w.alloc (.cells #[.int .i64 a0, .int .i64 a1, .int .i64 a2, .int .i64 a3, .int .i64 a4, .int .i64 a5, .int .i64 a6, .int .i64 a7, .int .i64 a8, .int .i64 a9] 23) = W1 at *
  refine (HF.out W1 ((HT.out.keep fun g hg => B1.block g hg).more B1.size)).mono ?_
  rintro e w1 ⟨A, r, rfl, h1, hB⟩
  have H1 : Hid (Hs w w1 A r) := ⟨h1.1.mono fun g k => Nat.le_trans B1.size k, below_step B1 h1.2⟩
  have S1 := hide (beg_st0 hB)
  obtain ⟨k4, _⟩ := h1.1.cfg
  have hq := S1.out.inv.book.good.c.queue
  have HS1 : Hid (FaS w A r.x.c.queue 1 0 w1) := ⟨r, H1.out, S1.out, rfl⟩
  clear h1 hB B1 HF S1 H1
  generalize r.x.c.queue = Q at *
  go_wp2_with fail
  refine (pick_nat many Q _ HM.out (by omega) (by omega)).mono ?_
  rintro e w2 ⟨n, rfl, hn, hw⟩
  obtain rfl := hw.symm
  clear hw k4
  go_wp2
  go_loopw [9] (fun i wr => ∃ k : Nat, i = .int .i64 k ∧ k ≤ n + 1 ∧ Hid (FaS w A Q (if k = 0 then 1 else k) k wr)) (fun i _ => n + 1 - (intOf i).toNat)
  case atStart => exact ⟨0, rfl, by omega, HS1⟩
  case round =>
    obtain ⟨k, rfl, hk, HR⟩ := hrel
    by_cases hlt : k < n + 1
    · have hlt' : (k : Int) < 1 + (n : Int) := by omega
      obtain ⟨r1, hH, hS, hQ⟩ := HR.out
      have HH := hide hH
      have HSt := hide hS
      have HQ := hide hQ
      by_cases hk0 : 0 < k
      · have hk0' : (0 : Int) < (k : Int) := by omega
        rw [if_neg (by omega)] at HSt
        clear hH hS hQ HR HS1
        go_wp2_with fail
        refine (say_h w _ A r1 0 _ _ false HH.out HSt.out.inv.book (Or.inl rfl) HT.out hs1 (by decide) (by have := HSt.out.la; omega) (by have := HSt.out.lb; omega)).mono ?_
        rintro e w3 ⟨rfl, m1, hm1, h3⟩
        have S3 := hide (HSt.out.say (st := 0) (Or.inl rfl) hm1 (by rw [HSt.out.q0.1, HQ.out]; omega))
        have Q3 : Hid ((saidR r1 0 m1).x.c.queue = Q) := by rw [Hid, said_c]; exact HQ.out
        have H3 := hide h3
        simp only [if_true] at S3
        clear h3 hm1 HH HSt HQ
        generalize saidR r1 0 m1 = r3 at *
        go_wp2_with fail
        refine (say_h w _ A r3 1 _ _ false H3.out S3.out.inv.book (Or.inr rfl) HT.out hs1 (by decide) (by have := S3.out.la; omega) (by have := S3.out.lb; omega)).mono ?_
        rintro e w4 ⟨rfl, m2, hm2, h4⟩
        have HK : Hid (FaS w A Q (if k + 1 = 0 then 1 else k + 1) (k + 1) w4) := by
          have := S3.out.say (st := 1) (Or.inr rfl) hm2 (by rw [S3.out.q0.2, Q3.out]; omega)
          simp only [show ¬ (1 : Int) = 0 by decide, if_false] at this
          refine ⟨_, h4, ?_, by rw [said_c]; exact Q3.out⟩
          rw [if_neg (by omega)]
          exact this
        clear h4 hm2 H3 S3 Q3
        go_wp2
        go_roundw
        case rel => exact ⟨k + 1, by go_num, by omega, HK⟩
        case measure => simp [intOf]; omega
      · have hkz : k = 0 := by omega
        have hk0' : ¬ (0 : Int) < (k : Int) := by omega
        rw [if_pos hkz] at HSt
        have HSt' : Hid (St0 1 0 r1) := by have := HSt.out; rw [hkz] at this; exact this
        have HKZ := hide hkz
        clear hH hS hQ HR HS1 HSt hkz
        go_wp2_with fail
        refine (say_h w _ A r1 1 _ _ false HH.out HSt'.out.inv.book (Or.inr rfl) HT.out hs1 (by decide) (by have := HSt'.out.la; omega) (by have := HSt'.out.lb; omega)).mono ?_
        rintro e w4 ⟨rfl, m2, hm2, h4⟩
        have HK : Hid (FaS w A Q (if k + 1 = 0 then 1 else k + 1) (k + 1) w4) := by
          have := HSt'.out.say (st := 1) (Or.inr rfl) hm2 (by rw [HSt'.out.q0.2, HQ.out]; omega)
          simp only [show ¬ (1 : Int) = 0 by decide, if_false] at this
          refine ⟨_, h4, ?_, by rw [said_c]; exact HQ.out⟩
          rw [if_neg (by omega), HKZ.out]
          exact this
        clear h4 hm2
        go_wp2
        go_roundw
        case rel => exact ⟨k + 1, by go_num, by omega, HK⟩
        case measure => simp [intOf]; omega
    · have hlt' : ¬ (k : Int) < 1 + (n : Int) := by omega
      have hkn : k = n + 1 := by omega
      obtain ⟨r1, hH, hS, hQ⟩ := HR.out
      rw [if_neg (by omega)] at hS
      have hFL : FL r1 (boundN r1) := FL.start hS.frr (by rw [hS.la, hS.lb]) (by rw [hS.t0, hS.t1])
      have hFg : Fg 10 r1 := Fg.of hS (by omega) (by omega)
      have HH := hide hH
      have HL := hide hFL
      have HG := hide hFg
      clear hH hS hQ HR HS1 hFL hFg hkn hlt
      go_wp2_with fail
      refine (bound_h w _ A _ HH.out HL.out.cal.inv.book (by have := HG.out.la; omega) (by have := HG.out.lb; omega)).mono ?_
      rintro e w10 ⟨rfl, nd, rfl⟩
      have hbd := Run.Book.bound HL.out.cal.inv.book
      have HS := hide (show FaL w A (boundN r1) (World.drewN _ nd) from ⟨_, HH.out.drewN nd, HG.out, HL.out⟩)
      generalize boundN r1 = B at *
      clear HL HG HH
      go_wp2
      go_loopw [10] (fun i wr => ∃ k : Nat, i = .int .i64 k ∧ k ≤ 100000 ∧ Hid (FaL w A k wr)) (fun i _ => (intOf i).toNat)
      case atStart => exact ⟨B, rfl, hbd, HS⟩
      case round =>
        obtain ⟨kk, rfl, hkk, HR⟩ := hrel
        obtain ⟨r2, hH, hG, hL⟩ := HR.out
        have hpos := hL.pos
        obtain ⟨k', rfl⟩ : ∃ k', kk = k' + 1 := ⟨kk - 1, by omega⟩
        have hk0 : (0 : Int) < ((k' + 1 : Nat) : Int) := by omega
        obtain ⟨_, _, _, _, _, _, c16, c17, _⟩ := hH.1.cells
        rw [hG.ok] at c16
        rw [hG.fits] at c17
        have la := hG.la
        have lb := hG.lb
        have wk : IntKind.i64.wrap (((k' + 1 : Nat) : Int) - 1) = k' := by rw [IntKind.wrap_i64]; omega
        have HH := hide hH
        have HG := hide hG
        have HL := hide hL
        clear hH hG hL hpos HR HS
        go_wp2_with fail
        refine (left_h w _ A r2 HH.out HL.out.cal.inv.book (by omega) (by omega)).mono ?_
        rintro e w7 ⟨rfl, nd, rfl⟩
        by_cases hl0 : 0 < leftN r2
        · have hl0' : (0 : Int) < (leftN r2 : Int) := by omega
          have HH2 := hide (HH.out.drewN nd)
          have HLL := hide (HL.out.step hl0)
          clear hl0 c16 c17
          generalize leftN r2 = L at *
          go_wp2_with fail
          refine (tick_h w _ A r2 HH2.out HL.out.cal.inv.book (inv_tick HL.out.cal.inv).1 (by omega) (by omega)).mono ?_
          rintro e w8 ⟨v, rfl, hv, h8, _⟩
          have HK : Hid (FaL w A k' w8) := ⟨_, h8, HG.out.tick HL.out.cal.inv, HLL.out.1⟩
          obtain ⟨_, c11, c12, _⟩ := h8.1.cells
          obtain ⟨m1, _, _, m4, _, _⟩ := h8.marks
          have ht := HLL.out.1.turn
          have hb8 := h8.1.lt
          have hnf := hide (no_fail HLL.out.2.1 HLL.out.2.2)
          have hln : (events r2.x).length ≤ 2 := (inv_tick HL.out.cal.inv).1.len
          have htl : (tkR r2).a.told ≤ 10 ∧ (tkR r2).b.told ≤ 10 := by
            have hb := HLL.out.1.cal.inv.book
            have g := (HG.out.tick HL.out.cal.inv)
            have := hb.a.t; have := hb.b.t; have := g.la; have := g.lb
            omega
          obtain ⟨va, vcap, hve⟩ := hv.form
          have HV := hide hv
          generalize hE : events r2.x = E at *
          generalize (tkR r2).a.told = ta at *
          generalize (tkR r2).b.told = tb at *
          subst hve
          clear hv h8 hE HH2 HLL
          have wt : IntKind.i64.wrap ((tb : Int) + 1) = tb + 1 := by rw [IntKind.wrap_i64]; omega
          have d1 : decide ((ta : Int) < (tb : Int)) = false := by simp; omega
          have d2 : decide ((tb : Int) + 1 < (ta : Int)) = false := by simp; omega
          have d1n : decide (ta < tb) = false := by simp; omega
          have d2n : decide (tb + 1 < ta) = false := by simp; omega
          have n1 : ¬ ((ta : Int) < (tb : Int)) := by omega
          have n2 : ¬ ((tb : Int) + 1 < (ta : Int)) := by omega
          go_wp2
          go_loop [12] (fun i => ∃ j : Nat, i = .int .i64 j ∧ j ≤ E.length) (fun i => E.length - (intOf i).toNat)
          case atStart => exact ⟨0, rfl, by omega⟩
          case round =>
            obtain ⟨j, rfl, hj⟩ := hrel
            by_cases hjl : j < E.length
            · have hjl' : (j : Int) < (E.length : Int) := by omega
              have hne : E ≠ [] := fun e => by rw [e] at hjl; simp at hjl
              obtain ⟨g, cap2, eg, _, hgl, hgc⟩ := HV.out.at' hne
              have g0 := hgc j hjl 0 (by omega)
              simp only [evCells, List.getElem?_cons_zero, Nat.add_zero] at g0
              have hk3 : (E.getD j noEv).kind ≠ 3 := hnf.out _ (by rw [List.getD, List.getElem?_eq_getElem hjl]; exact List.getElem_mem hjl)
              simp only [Value.slice.injEq, true_and] at eg
              obtain ⟨rfl, rfl⟩ := eg
              clear hgc hne
              generalize (E.getD j noEv).kind = kd at *
              have dk : ((kd : Int) == 3) = false := by simp; omega
              clear hk3
              rcases (show j = 0 ∨ j = 1 by omega) with rfl | rfl
              · simp only [Nat.zero_mul] at g0
                go_wp2
                go_round
                · exact ⟨1, by go_num, by omega⟩
                · simp [intOf]; omega
              · simp only [Nat.one_mul] at g0
                go_wp2
                go_round
                · exact ⟨2, by go_num, by omega⟩
                · simp [intOf]; omega
            · have hjl' : ¬ (j : Int) < (E.length : Int) := by omega
              clear hjl
              go_wp2_with fail
              go_quiet (fail)
              have HK2 := hide (show FaL w A k' (World.drewN _ nq) from by obtain ⟨x, y, z⟩ := HK.out; exact ⟨x, y.drewN nq, z⟩)
              go_wp2
              go_roundw
              case rel => exact ⟨k', by go_num, by omega, HK2⟩
              case measure => simp [intOf]
        · have hl0' : ¬ (0 : Int) < (leftN r2 : Int) := by omega
          have hz : leftN r2 = 0 := by omega
          have HH2 := hide (HH.out.drewN nd)
          have HZ := hide hz
          have HB := hide (fun m => (show Below w.heap.size w (World.drewN _ m) from below_drewN HH.out.2 m))
          clear hl0 hz hl0'
          rw [HZ.out]
          go_wp2_with fail
          refine (left_h w _ A r2 HH2.out HL.out.cal.inv.book (by omega) (by omega)).mono ?_
          rintro e w9 ⟨rfl, nd', rfl⟩
          rw [HZ.out]
          go_wp2
          go_ret
          exact ⟨rfl, HB.out _⟩

theorem lifted (os : Os) (started : os.Started) (H : Type) (enc : TypeId × Value → H) :
    ReturnsInHanded {} Tryz.checked os 4 .any (fun w args => (Rows.fairSpec.pre enc Tryz.prog Tryz.f4 [] false w args ∧ laidMetH Tryz.prog laid3 w) ∧ sizedMet enc Tryz.prog Tryz.f4 (OpenSpec.ofChange Rows.fairSpec) false w args)
      (Rows.fairSpec.post enc Tryz.prog Tryz.f4 false true false false) := by
  refine returnsInHanded_of_change_and (C := Tryz.checked) (X := fun w _ => laidMetH Tryz.prog laid3 w) (fun _ _ _ hh h => h.of_heap hh) own started (by kernel_rfl) Tryz.func4
    (ChangeSpec.witness_shaped (enc := enc) (C := Tryz.checked) (os := os) (X := fun w _ => laidMetH Tryz.prog laid3 w) false (World.doorLaid Tryz.prog 400 os) #[.agg #[.int .i64 0, .int .i64 0, .int .i64 0, .int .i64 0, .int .i64 0, .int .i64 0, .int .i64 0, .int .i64 0, .int .i64 0, .int .i64 0], .int .i64 0, .string ByteArray.empty] 8 rfl (World.shaped_of_RefB (by kernel_rfl) (by kernel_rfl)) (by kernel_rfl) (by kernel_rfl) (by kernel_rfl) (door_met os _)) ?_
  intro W base args ds gs before hval0 hW hcnd hsz0 hL _
  have hval : ∀ (j : Nat) t v, Tryz.f4.params[j]? = some t → args[j]? = some v → Value.okWide Tryz.prog W .any base t v := hval0
  have hsz : (DataW.weightsEach Tryz.prog (Tryz.f4.params.toList ++ Rows.fairSpec.plain.varTypes Tryz.prog) (ds ++ gs)).all (· ≤ reachBytes) = true := hsz0
  have hW' := hW
  obtain ⟨p, q, hA0, hV, rfl, hfz, hnd⟩ := hW
  have hA : DataW.TrodAll enc Tryz.prog W 0 (fun _ => true) true Tryz.f4.params.toList args.toList ds p := hA0
  rw [Tryz.params4] at hA hval hsz
  obtain ⟨v0, vs0, d0, ds0, p0, q0, hargs, rfl, rfl, h0, r0⟩ := trodAll_cons hA
  obtain ⟨v1, vs1, d1, ds1, p1, q1, rfl, rfl, rfl, h1, r1⟩ := trodAll_cons r0
  obtain ⟨v2, vs2, d2, ds2, p2, q2, rfl, rfl, rfl, h2, r2⟩ := trodAll_cons r1
  obtain ⟨rfl, rfl, rfl⟩ := trodAll_nil r2
  obtain rfl : args = #[v0, v1, v2] := by cases args; simp_all
  obtain ⟨rfl, rfl⟩ := trodVars_none hV
  have k0 := h0
  have lt0 : ∀ x ∈ p0, x.block < W.heap.size := by obtain ⟨m, hm⟩ := k0; exact DataW.trod_lt m _ _ _ hm
  obtain ⟨a0, a1, a2, a3, a4, a5, a6, a7, a8, a9, rfl, i0, i1, i2, i3, i4, i5, i6, i7, i8, i9⟩ := open_cfg (hval 0 23 v0 rfl rfl) h0
  obtain ⟨x1, rfl, rfl, rfl, z1⟩ := open_int Tryz.underlying3 (hval 1 3 v1 rfl rfl) h1
  obtain ⟨x2, rfl, rfl, rfl, z2⟩ := open_string Tryz.underlying9 (hval 2 9 v2 rfl rfl) h2
  have b2 := string_reach (j := 2) hsz rfl rfl
  have hT := of_laid hL
  clear hA0 hval0 hsz0 hsz
  refine (walk a0 a1 a2 a3 a4 a5 a6 a7 a8 a9 x1 x2 W i0 i1 i2 i3 i4 i5 i6 i7 i8 i9 (by simpa [Lit.wf, IntKind.min, IntKind.max, IntKind.signed, IntKind.bits, I64] using z1) (by omega) hT).mono fun e W' ⟨he, bel⟩ => ?_
  subst he
  exact ⟨_, rfl, _, _, _, [], _, [], hW', trodAll_mk1 (shut_bool Tryz.underlying4 _), (trodAll_cons_mk (Below.trod laidOut (by kernel_rfl) (of_decide_eq_true (by kernel_rfl)) k0 bel lt0) (trodAll_cons_mk (shut_int Tryz.underlying3 z1) (trodAll_cons_mk (shut_string Tryz.underlying9 z2) trodAll_mk0))), rfl, bel.frame _, fun h => by cases h⟩

theorem over : Rows.fairRow.holds Tryz.pinned (OpenSpec.ofChange Rows.fairSpec) :=
  OpenClaim.holds_of_wide 4 Tryz.f4 rfl rfl rfl rfl rfl rfl rfl ⟨rfl, rfl, rfl, rfl, rfl⟩ rfl rfl rfl rfl rfl (by kernel_rfl) Tryz.func4 (by kernel_rfl)
    (of_decide_eq_true (by kernel_rfl)) (by unfold Func.isWrapper; first | (rw [if_pos (by decide +kernel)]; kernel_rfl) | (rw [if_neg (by decide +kernel)]; exact ⟨rfl, rfl⟩))
    (fun os started H enc _ => lifted os started H enc)
end Go.Proofs.YtlbpjcphhocdkabGreatDoor.fair
namespace Go.Proofs.YtlbpjcphhocdkabGreatDoor
theorem fair_holds : Rows.FairCardSaid :=
  Claim7.holds_tied_plain_at .later [] [.data, .data, .data] true (true, "83546ea0d44c0dbf0d10714a4aa846266200a9a0f88a82075b26f9612e90402b") false
    fair.over (fun _ h => by cases h) (by kernel_rfl) (fun _ h => by cases h) fair_row_tie rfl ⟨rfl, rfl⟩ (by kernel_rfl) rfl
    (fun f fn hf hfn => by
      obtain rfl : f = 4 := Option.some.inj ((show Tryz.prog.funcNamed "duplex/duplexkeep.Fair" = some 4 by kernel_rfl).symm.trans hf) |>.symm
      obtain rfl : fn = Tryz.f4 := (Option.some.inj (Tryz.func4.symm.trans hfn)).symm
      exact ⟨by kernel_rfl, fun j t ht => by
        rw [Tryz.params4] at ht
        rcases j with _ | _ | _ | j
        · obtain rfl : 23 = t := by simpa using ht
          kernel_rfl
        · obtain rfl : 3 = t := by simpa using ht
          kernel_rfl
        · obtain rfl : 9 = t := by simpa using ht
          kernel_rfl
        · simp at ht⟩)
    (by kernel_rfl)
#print axioms fair_holds
end Go.Proofs.YtlbpjcphhocdkabGreatDoor
