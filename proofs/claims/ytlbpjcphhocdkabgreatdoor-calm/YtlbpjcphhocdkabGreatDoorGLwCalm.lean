/-The law Calm, proved: for every configuration and script that can be read the law answers true (all messages are told of in time, none fails that began in the calm, then there is silence), and nothing that was in memory has changed; the library's three tables are as the program's text lays them (tied). -/
import Derived.Test.YtlbpjcphhocdkabGreatDoorGCal
import Derived.Test.YtlbpjcphhocdkabGreatDoorTie
import Derived.Test.YtlbpjcphhocdkabGreatDoorCards
namespace Go.Proofs.YtlbpjcphhocdkabGreatDoor.calm
set_option maxRecDepth 1000000
open Go.ChangeShapes Go.WideShapes Go.ChangeAt Go.RowKit Go.Proofs.YtlbpjcphhocdkabGreatDoor.Mod Go.Proofs.YtlbpjcphhocdkabGreatDoor.Pst Go.Proofs.YtlbpjcphhocdkabGreatDoor.Run
set_option linter.unusedVariables false

set_option maxHeartbeats 4000000 in
theorem walk (a0 a1 a2 a3 a4 a5 a6 a7 a8 a9 : Int) (sa : Option Addr) (cap : Nat) (l : List Stp) (w : World) (i0 : I64 a0) (i1 : I64 a1) (i2 : I64 a2) (i3 : I64 a3) (i4 : I64 a4) (i5 : I64 a5) (i6 : I64 a6) (i7 : I64 a7) (i8 : I64 a8) (i9 : I64 a9) (hs : ScrAt w sa l) (ho : ∀ o ∈ l, StpOk o) (hl : l.length ≤ 2000000000000) (ht : Tab w w.heap.size) :
    Calls Tryz.prog 8 #[rawV a0 a1 a2 a3 a4 a5 a6 a7 a8 a9, .slice sa l.length cap] w fun e w' => e = .returned (.bool true) ∧ Below w.heap.size w w' := by
  have HF := hide (fun W hs ht => played_run a0 a1 a2 a3 a4 a5 a6 a7 a8 a9 sa cap l W i0 i1 i2 i3 i4 i5 i6 i7 i8 i9 hs ho hl ht)
  have HT := hide ht
  have HSc := hide hs
  unfold rawV at *
  clear i0 i1 i2 i3 i4 i5 i6 i7 i8 i9 ht hs ho
  go_enter Tryz.func8, Tryz.ntmps8
  go_wp2_with fail
  have B1 := (Below.refl w.heap.size w).alloc (Nat.le_refl _) (.cells #[.int .i64 a0, .int .i64 a1, .int .i64 a2, .int .i64 a3, .int .i64 a4, .int .i64 a5, .int .i64 a6, .int .i64 a7, .int .i64 a8, .int .i64 a9] 23)
  generalize w.alloc (.cells #[.int .i64 a0, .int .i64 a1, .int .i64 a2, .int .i64 a3, .int .i64 a4, .int .i64 a5, .int .i64 a6, .int .i64 a7, .int .i64 a8, .int .i64 a9] 23) = W1 at *
  refine (HF.out W1 (HSc.out.below B1) ((HT.out.keep fun g hg => B1.block g hg).more B1.size)).mono ?_
  rintro e w1 ⟨A, rfl, r, h1, hS, hC, hl0⟩
  have HB := hide (below_step B1 h1.2)
  obtain ⟨_, _, _, _, _, _, c16, c17, c18, c19, _⟩ := h1.1.cells
  rw [hS.ok] at c16
  rw [hS.fresh] at c19
  obtain ⟨_, _, _, _, k8, _⟩ := h1.1.cfg
  have hlo := hC.inv.book.good.c.lost.2
  have HQ : Hid (QtR w A (l.length + 1) (r.x.now + r.x.c.lost) (r.x.c.lost + 3) w1) := ⟨r, ⟨h1.1.mono fun g k => Nat.le_trans B1.size k, below_step B1 h1.2⟩, QP.start hC hS hl0⟩
  generalize r.x.now + r.x.c.lost = D at *
  generalize r.x.c.lost = lo at *
  have wl : IntKind.i64.wrap ((lo : Int) + 3) = lo + 3 := wrap_in _ (by omega) (by omega)
  clear h1 hS hC hl0 B1 HB c17 c18
  go_wp2
  go_loopw [6] (fun i wr => ∃ k : Nat, i = .int .i64 k ∧ k ≤ 258 ∧ Hid (QtR w A (l.length + 1) D k wr)) (fun i _ => (intOf i).toNat)
  case atStart => exact ⟨lo + 3, by go_num, by omega, HQ⟩
  case round =>
    obtain ⟨k, rfl, hk, HR⟩ := hrel
    by_cases hk0 : 0 < k
    · obtain ⟨k', rfl⟩ : ∃ k', k = k' + 1 := ⟨k - 1, by omega⟩
      have hk0' : (0 : Int) < ((k' + 1 : Nat) : Int) := by omega
      have wk : IntKind.i64.wrap (((k' + 1 : Nat) : Int) - 1) = k' := by rw [IntKind.wrap_i64]; omega
      obtain ⟨r1, hH, hP⟩ := HR.out
      have la := hP.la
      have lb := hP.lb
      have HH := hide hH
      have HP := hide hP
      clear hH hP HR HQ
      go_wp2_with fail
      refine (tick_h w _ A r1 HH.out HP.out.cal.inv.book HP.out.tick.1 (by omega) (by omega)).mono ?_
      rintro e w8 ⟨v, rfl, hv, h8, _⟩
      have HK : Hid (QtR w A (l.length + 1) D k' w8) := ⟨_, h8, HP.out.tick.2.1⟩
      clear hv h8
      go_wp2
      go_roundw
      case rel => exact ⟨k', by go_num, by omega, HK⟩
      case measure => simp [intOf]
    · have hkz : k = 0 := by omega
      have hk0' : ¬ (0 : Int) < (k : Int) := by omega
      have HQ0 := hide HR.out
      rw [hkz] at HQ0
      clear hk0 hk HR HQ hkz
      go_wp2
      go_loopw [7] (fun i wr => ∃ k : Nat, i = .int .i64 k ∧ k ≤ 4 ∧ Hid (QtR w A (l.length + 1) D 0 wr)) (fun i _ => 4 - (intOf i).toNat)
      case atStart => exact ⟨0, rfl, by omega, HQ0⟩
      case round =>
        obtain ⟨j, rfl, hj, HR⟩ := hrel
        obtain ⟨r1, hH, hP⟩ := HR.out
        have la := hP.la
        have lb := hP.lb
        have HH := hide hH
        have HP := hide hP
        by_cases hk4 : j < 4
        · have hk4' : (j : Int) < 4 := by omega
          clear hH hP HR HQ0
          go_wp2_with fail
          refine (tick_h w _ A r1 HH.out HP.out.cal.inv.book HP.out.tick0.1 (by omega) (by omega)).mono ?_
          rintro e w8 ⟨v, rfl, hv, h8, _⟩
          have H8 := hide h8
          obtain ⟨c0, _⟩ := h8.1.cells
          clear hv h8
          go_wp2_with fail
          refine (onLine_h w _ A _ 0 H8.out).mono ?_
          rintro e w9 ⟨rfl, h9, _⟩
          rw [show onOf (tkR r1).x 0 = [] from HP.out.tick0.2.2.1]
          have H9 := hide h9
          obtain ⟨c0', _⟩ := h9.1.cells
          clear h9 c0
          go_wp2_with fail
          refine (onLine_h w _ A _ 1 H9.out).mono ?_
          rintro e w10 ⟨rfl, h10, _⟩
          rw [show onOf (tkR r1).x 1 = [] from HP.out.tick0.2.2.2]
          have HK : Hid (QtR w A (l.length + 1) D 0 w10) := ⟨_, h10, HP.out.tick0.2.1⟩
          clear h10 c0'
          go_wp2
          go_roundw
          case rel => exact ⟨j + 1, by go_num, by omega, HK⟩
          case measure => simp [intOf]; omega
        · have hk4' : ¬ (j : Int) < 4 := by omega
          obtain ⟨c0, _⟩ := hH.1.cells
          obtain ⟨e0, e1⟩ := hP.end'
          clear hH hP HR HQ0 hk4
          go_wp2_with fail
          refine (look_h w _ A _ 0 HH.out).mono ?_
          rintro e w9 ⟨rfl, h9, _⟩
          rw [show lookOf r1.x 0 = .agg #[.int .i64 r1.x.s0.mode, .int .i64 r1.x.s0.queue.length, .bool r1.x.s0.busy] from rfl, e0]
          obtain ⟨c0', _⟩ := h9.1.cells
          have hrb9 := h9.1.lt.1
          have hne9 : A.rb ≠ w9.heap.size := by omega
          have H9 := hide h9
          clear h9 c0
          go_wp2_with fail
          have X0 := VwAt.new w9 (.int .i64 ((0 : Nat) : Int)) (.int .i64 r1.x.s0.queue.length) (.bool r1.x.s0.busy)
          have HA := hide (H9.out.below (Below.allocN (Below.refl w9.heap.size w9) (.cells #[.int .i64 ((0 : Nat) : Int), .int .i64 r1.x.s0.queue.length, .bool r1.x.s0.busy] 50)))
          generalize hWe : w9.alloc (.cells #[.int .i64 ((0 : Nat) : Int), .int .i64 r1.x.s0.queue.length, .bool r1.x.s0.busy] 50) = W9 at *
          refine (look_h w _ A _ 1 HA.out).mono ?_
          rintro e w11 ⟨rfl, h11, hb11⟩
          rw [show lookOf r1.x 1 = .agg #[.int .i64 r1.x.s1.mode, .int .i64 r1.x.s1.queue.length, .bool r1.x.s1.busy] from rfl, e1]
          have X1 : VwAt w11 w9.heap.size _ _ _ := (hb11.block _ (lt_of_block X0)).trans X0
          obtain ⟨v0, _, _⟩ := X1.cell
          have hlt1 := lt_of_block X1
          obtain ⟨_, _, _, _, _, _, c16, _⟩ := h11.1.cells
          rw [HP.out.ok] at c16
          have hrb11 := h11.1.lt.1
          have HB := hide h11.2
          clear h11 hb11 X0 X1 c0' hWe
          generalize w9.heap.size = g9 at *
          go_wp2
          go_ret
          exact ⟨rfl, Below.allocN HB.out _⟩

theorem lifted (os : Os) (started : os.Started) (H : Type) (enc : TypeId × Value → H) :
    ReturnsInHanded {} Tryz.checked os 8 .any (fun w args => (Rows.calmSpec.pre enc Tryz.prog Tryz.f8 [] false w args ∧ laidMetH Tryz.prog laid3 w) ∧ sizedMet enc Tryz.prog Tryz.f8 (OpenSpec.ofChange Rows.calmSpec) false w args)
      (Rows.calmSpec.post enc Tryz.prog Tryz.f8 false true false false) := by
  refine returnsInHanded_of_change_and (C := Tryz.checked) (X := fun w _ => laidMetH Tryz.prog laid3 w) (fun _ _ _ hh h => h.of_heap hh) own started (by kernel_rfl) Tryz.func8
    (ChangeSpec.witness_shaped (enc := enc) (C := Tryz.checked) (os := os) (X := fun w _ => laidMetH Tryz.prog laid3 w) false (World.doorLaid Tryz.prog 400 os) #[.agg #[.int .i64 0, .int .i64 0, .int .i64 0, .int .i64 0, .int .i64 0, .int .i64 0, .int .i64 0, .int .i64 0, .int .i64 0, .int .i64 0], .slice none 0 0] 8 rfl (World.shaped_of_RefB (by kernel_rfl) (by kernel_rfl)) (by kernel_rfl) (by kernel_rfl) (by kernel_rfl) (door_met os _)) ?_
  intro W base args ds gs before hval0 hW hcnd hsz0 hL _
  have hval : ∀ (j : Nat) t v, Tryz.f8.params[j]? = some t → args[j]? = some v → Value.okWide Tryz.prog W .any base t v := hval0
  have hsz : (DataW.weightsEach Tryz.prog (Tryz.f8.params.toList ++ Rows.calmSpec.plain.varTypes Tryz.prog) (ds ++ gs)).all (· ≤ reachBytes) = true := hsz0
  have hW' := hW
  obtain ⟨p, q, hA0, hV, rfl, hfz, hnd⟩ := hW
  have hA : DataW.TrodAll enc Tryz.prog W 0 (fun _ => true) true Tryz.f8.params.toList args.toList ds p := hA0
  rw [Tryz.params8] at hA hval hsz
  obtain ⟨v0, vs0, d0, ds0, p0, q0, hargs, rfl, rfl, h0, r0⟩ := trodAll_cons hA
  obtain ⟨v1, vs1, d1, ds1, p1, q1, rfl, rfl, rfl, h1, r1⟩ := trodAll_cons r0
  obtain ⟨rfl, rfl, rfl⟩ := trodAll_nil r1
  obtain rfl : args = #[v0, v1] := by cases args; simp_all
  obtain ⟨rfl, rfl⟩ := trodVars_none hV
  have k0 := h0
  have k1 := h1
  have lt0 : ∀ x ∈ p0, x.block < W.heap.size := by obtain ⟨m, hm⟩ := k0; exact DataW.trod_lt m _ _ _ hm
  have lt1 : ∀ x ∈ p1, x.block < W.heap.size := by obtain ⟨m, hm⟩ := k1; exact DataW.trod_lt m _ _ _ hm
  obtain ⟨a0, a1, a2, a3, a4, a5, a6, a7, a8, a9, rfl, i0, i1, i2, i3, i4, i5, i6, i7, i8, i9⟩ := open_cfg (hval 0 23 v0 rfl rfl) h0
  obtain ⟨a, l, cap, rfl, hs, hi, hd⟩ := open_script (hval 1 45 v1 rfl rfl) h1
  obtain ⟨b1, b2⟩ := script_reach (j := 1) hsz rfl rfl hd
  have hT := of_laid hL
  clear hA0 hval0 hsz0 hsz
  refine (walk a0 a1 a2 a3 a4 a5 a6 a7 a8 a9 a cap l W i0 i1 i2 i3 i4 i5 i6 i7 i8 i9 hs (fun o ho => ⟨(hi o ho).1, (hi o ho).2.1, (hi o ho).2.2, (b2 o ho).1, (b2 o ho).2⟩) b1 hT).mono fun e W' ⟨he, bel⟩ => ?_
  subst he
  exact ⟨_, rfl, _, _, _, [], _, [], hW', trodAll_mk1 (shut_bool Tryz.underlying4 _), (trodAll_cons_mk (Below.trod laidOut (by kernel_rfl) (of_decide_eq_true (by kernel_rfl)) k0 bel lt0) (trodAll_cons_mk (Below.trod laidOut (by kernel_rfl) (of_decide_eq_true (by kernel_rfl)) k1 bel lt1) trodAll_mk0)), rfl, bel.frame _, fun h => by cases h⟩

theorem over : Rows.calmRow.holds Tryz.pinned (OpenSpec.ofChange Rows.calmSpec) :=
  OpenClaim.holds_of_wide 8 Tryz.f8 rfl rfl rfl rfl rfl rfl rfl ⟨rfl, rfl, rfl, rfl, rfl⟩ rfl rfl rfl rfl rfl (by kernel_rfl) Tryz.func8 (by kernel_rfl)
    (of_decide_eq_true (by kernel_rfl)) (by unfold Func.isWrapper; first | (rw [if_pos (by decide +kernel)]; kernel_rfl) | (rw [if_neg (by decide +kernel)]; exact ⟨rfl, rfl⟩))
    (fun os started H enc _ => lifted os started H enc)
end Go.Proofs.YtlbpjcphhocdkabGreatDoor.calm
namespace Go.Proofs.YtlbpjcphhocdkabGreatDoor
theorem calm_holds : Rows.CalmCardSaid :=
  Claim7.holds_tied_plain_at .later [] [.data, .data, .data] true (true, "83546ea0d44c0dbf0d10714a4aa846266200a9a0f88a82075b26f9612e90402b") false
    calm.over (fun _ h => by cases h) (by kernel_rfl) (fun _ h => by cases h) calm_row_tie rfl ⟨rfl, rfl⟩ (by kernel_rfl) rfl
    (fun f fn hf hfn => by
      obtain rfl : f = 8 := Option.some.inj ((show Tryz.prog.funcNamed "duplex/duplexkeep.Calm" = some 8 by kernel_rfl).symm.trans hf) |>.symm
      obtain rfl : fn = Tryz.f8 := (Option.some.inj (Tryz.func8.symm.trans hfn)).symm
      exact ⟨by kernel_rfl, fun j t ht => by
        rw [Tryz.params8] at ht
        rcases j with _ | _ | j
        · obtain rfl : 23 = t := by simpa using ht
          kernel_rfl
        · obtain rfl : 45 = t := by simpa using ht
          kernel_rfl
        · simp at ht⟩)
    (by kernel_rfl)
#print axioms calm_holds
end Go.Proofs.YtlbpjcphhocdkabGreatDoor
