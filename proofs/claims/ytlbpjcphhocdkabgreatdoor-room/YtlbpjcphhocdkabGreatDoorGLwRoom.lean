/-The law Room, proved: for every configuration and script that can be read the law answers true (each Submit and each queue fits), and nothing that was in memory has changed; the library's three tables are as the program's text lays them (tied). -/
import Derived.Test.YtlbpjcphhocdkabGreatDoorGLw
import Derived.Test.YtlbpjcphhocdkabGreatDoorTie
import Derived.Test.YtlbpjcphhocdkabGreatDoorCards
namespace Go.Proofs.YtlbpjcphhocdkabGreatDoor.room
set_option maxRecDepth 1000000
open Go.ChangeShapes Go.WideShapes Go.ChangeAt Go.RowKit Go.Proofs.YtlbpjcphhocdkabGreatDoor.Mod Go.Proofs.YtlbpjcphhocdkabGreatDoor.Pst Go.Proofs.YtlbpjcphhocdkabGreatDoor.Run
set_option linter.unusedVariables false

set_option maxHeartbeats 4000000 in
theorem walk (a0 a1 a2 a3 a4 a5 a6 a7 a8 a9 : Int) (sa : Option Addr) (cap : Nat) (l : List Stp) (w : World) (i0 : I64 a0) (i1 : I64 a1) (i2 : I64 a2) (i3 : I64 a3) (i4 : I64 a4) (i5 : I64 a5) (i6 : I64 a6) (i7 : I64 a7) (i8 : I64 a8) (i9 : I64 a9) (hs : ScrAt w sa l) (ho : ∀ o ∈ l, StpOk o) (hl : l.length ≤ 2000000000000) (ht : Tab w w.heap.size) :
    Calls Tryz.prog 5 #[rawV a0 a1 a2 a3 a4 a5 a6 a7 a8 a9, .slice sa l.length cap] w fun e w' => e = .returned (.bool true) ∧ Below w.heap.size w w' := by
  have HF := hide (fun W hs ht => played_run a0 a1 a2 a3 a4 a5 a6 a7 a8 a9 sa cap l W i0 i1 i2 i3 i4 i5 i6 i7 i8 i9 hs ho hl ht)
  have HT := hide ht
  have HSc := hide hs
  unfold rawV at *
  clear i0 i1 i2 i3 i4 i5 i6 i7 i8 i9 ht hs ho
  go_enter Tryz.func5, Tryz.ntmps5
  go_wp2_with fail
  have B1 := (Below.refl w.heap.size w).alloc (Nat.le_refl _) (.cells #[.int .i64 a0, .int .i64 a1, .int .i64 a2, .int .i64 a3, .int .i64 a4, .int .i64 a5, .int .i64 a6, .int .i64 a7, .int .i64 a8, .int .i64 a9] 23)
  generalize w.alloc (.cells #[.int .i64 a0, .int .i64 a1, .int .i64 a2, .int .i64 a3, .int .i64 a4, .int .i64 a5, .int .i64 a6, .int .i64 a7, .int .i64 a8, .int .i64 a9] 23) = W1 at *
  refine (HF.out W1 (HSc.out.below B1) ((HT.out.keep fun g hg => B1.block g hg).more B1.size)).mono ?_
  rintro e w1 ⟨A, rfl, r, h1, hS, hC, hl0⟩
  have HB := hide (below_step B1 h1.2)
  obtain ⟨_, _, _, _, _, _, c16, c17, c18, _⟩ := h1.1.cells
  rw [hS.fits] at c17
  clear h1 hS hC hl0 B1
  go_wp2
  go_ret
  exact ⟨rfl, HB.out⟩

theorem lifted (os : Os) (started : os.Started) (H : Type) (enc : TypeId × Value → H) :
    ReturnsInHanded {} Tryz.checked os 5 .any (fun w args => (Rows.roomSpec.pre enc Tryz.prog Tryz.f5 [] false w args ∧ laidMetH Tryz.prog laid3 w) ∧ sizedMet enc Tryz.prog Tryz.f5 (OpenSpec.ofChange Rows.roomSpec) false w args)
      (Rows.roomSpec.post enc Tryz.prog Tryz.f5 false true false false) := by
  refine returnsInHanded_of_change_and (C := Tryz.checked) (X := fun w _ => laidMetH Tryz.prog laid3 w) (fun _ _ _ hh h => h.of_heap hh) own started (by kernel_rfl) Tryz.func5
    (ChangeSpec.witness_shaped (enc := enc) (C := Tryz.checked) (os := os) (X := fun w _ => laidMetH Tryz.prog laid3 w) false (World.doorLaid Tryz.prog 400 os) #[.agg #[.int .i64 0, .int .i64 0, .int .i64 0, .int .i64 0, .int .i64 0, .int .i64 0, .int .i64 0, .int .i64 0, .int .i64 0, .int .i64 0], .slice none 0 0] 8 rfl (World.shaped_of_RefB (by kernel_rfl) (by kernel_rfl)) (by kernel_rfl) (by kernel_rfl) (by kernel_rfl) (door_met os _)) ?_
  intro W base args ds gs before hval0 hW hcnd hsz0 hL _
  have hval : ∀ (j : Nat) t v, Tryz.f5.params[j]? = some t → args[j]? = some v → Value.okWide Tryz.prog W .any base t v := hval0
  have hsz : (DataW.weightsEach Tryz.prog (Tryz.f5.params.toList ++ Rows.roomSpec.plain.varTypes Tryz.prog) (ds ++ gs)).all (· ≤ reachBytes) = true := hsz0
  have hW' := hW
  obtain ⟨p, q, hA0, hV, rfl, hfz, hnd⟩ := hW
  have hA : DataW.TrodAll enc Tryz.prog W 0 (fun _ => true) true Tryz.f5.params.toList args.toList ds p := hA0
  rw [Tryz.params5] at hA hval hsz
  obtain ⟨v0, vs0, d0, ds0, p0, q0, hargs, rfl, rfl, h0, r0⟩ := trodAll_cons hA
  obtain ⟨v1, vs1, d1, ds1, p1, q1, rfl, rfl, rfl, h1, r1⟩ := trodAll_cons r0
  obtain ⟨rfl, rfl, rfl⟩ := trodAll_nil r1
  obtain rfl : args = #[v0, v1] := by cases args; simp_all
  obtain ⟨rfl, rfl⟩ := trodVars_none hV
  have k0 := h0
  have k1 := h1
  have lt0 : ∀ x ∈ p0, x.block < W.heap.size := by obtain ⟨m, hm⟩ := k0; exact DataW.trod_lt m _ _ _ hm
  have lt1 : ∀ x ∈ p1, x.block < W.heap.size := by obtain ⟨m, hm⟩ := k1; exact DataW.trod_lt m _ _ _ hm
  obtain ⟨a0, a1, a2, a3, a4, a5, a6, a7, a8, a9, rfl, i0, i1, i2, i3, i4, i5, i6, i7, i8, i9⟩ := open_cfg (hval 0 23 v0 rfl rfl) h0
  obtain ⟨a, l, cap, rfl, hs, hi, hd⟩ := open_script (hval 1 45 v1 rfl rfl) h1
  obtain ⟨b1, b2⟩ := script_reach (j := 1) hsz rfl rfl hd
  have hT := of_laid hL
  clear hA0 hval0 hsz0 hsz
  refine (walk a0 a1 a2 a3 a4 a5 a6 a7 a8 a9 a cap l W i0 i1 i2 i3 i4 i5 i6 i7 i8 i9 hs (fun o ho => ⟨(hi o ho).1, (hi o ho).2.1, (hi o ho).2.2, (b2 o ho).1, (b2 o ho).2⟩) b1 hT).mono fun e W' ⟨he, bel⟩ => ?_
  subst he
  exact ⟨_, rfl, _, _, _, [], _, [], hW', trodAll_mk1 (shut_bool Tryz.underlying4 _), (trodAll_cons_mk (Below.trod laidOut (by kernel_rfl) (of_decide_eq_true (by kernel_rfl)) k0 bel lt0) (trodAll_cons_mk (Below.trod laidOut (by kernel_rfl) (of_decide_eq_true (by kernel_rfl)) k1 bel lt1) trodAll_mk0)), rfl, bel.frame _, fun h => by cases h⟩

theorem over : Rows.roomRow.holds Tryz.pinned (OpenSpec.ofChange Rows.roomSpec) :=
  OpenClaim.holds_of_wide 5 Tryz.f5 rfl rfl rfl rfl rfl rfl rfl ⟨rfl, rfl, rfl, rfl, rfl⟩ rfl rfl rfl rfl rfl (by kernel_rfl) Tryz.func5 (by kernel_rfl)
    (of_decide_eq_true (by kernel_rfl)) (by unfold Func.isWrapper; first | (rw [if_pos (by decide +kernel)]; kernel_rfl) | (rw [if_neg (by decide +kernel)]; exact ⟨rfl, rfl⟩))
    (fun os started H enc _ => lifted os started H enc)
end Go.Proofs.YtlbpjcphhocdkabGreatDoor.room
namespace Go.Proofs.YtlbpjcphhocdkabGreatDoor
theorem room_holds : Rows.RoomCardSaid :=
  Claim7.holds_tied_plain_at .later [] [.data, .data, .data] true (true, "83546ea0d44c0dbf0d10714a4aa846266200a9a0f88a82075b26f9612e90402b") false
    room.over (fun _ h => by cases h) (by kernel_rfl) (fun _ h => by cases h) room_row_tie rfl ⟨rfl, rfl⟩ (by kernel_rfl) rfl
    (fun f fn hf hfn => by
      obtain rfl : f = 5 := Option.some.inj ((show Tryz.prog.funcNamed "duplex/duplexkeep.Room" = some 5 by kernel_rfl).symm.trans hf) |>.symm
      obtain rfl : fn = Tryz.f5 := (Option.some.inj (Tryz.func5.symm.trans hfn)).symm
      exact ⟨by kernel_rfl, fun j t ht => by
        rw [Tryz.params5] at ht
        rcases j with _ | _ | j
        · obtain rfl : 23 = t := by simpa using ht
          kernel_rfl
        · obtain rfl : 45 = t := by simpa using ht
          kernel_rfl
        · simp at ht⟩)
    (by kernel_rfl)
#print axioms room_holds
end Go.Proofs.YtlbpjcphhocdkabGreatDoor
