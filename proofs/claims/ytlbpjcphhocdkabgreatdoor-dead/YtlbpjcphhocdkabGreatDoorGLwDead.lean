/-The law Dead, proved: for every configuration and script that can be read the law answers true (on a dead line each message fails behind just Tries + 1 bids, in their order, then there is silence), and nothing that was in memory has changed; the library's three tables are as the program's text lays them (tied). -/
import Derived.Test.YtlbpjcphhocdkabGreatDoorGDed2
import Derived.Test.YtlbpjcphhocdkabGreatDoorTie
import Derived.Test.YtlbpjcphhocdkabGreatDoorCards
namespace Go.Proofs.YtlbpjcphhocdkabGreatDoor.dead
set_option maxRecDepth 1000000
open Go.ChangeShapes Go.WideShapes Go.ChangeAt Go.RowKit Go.Proofs.YtlbpjcphhocdkabGreatDoor.Mod Go.Proofs.YtlbpjcphhocdkabGreatDoor.Pst Go.Proofs.YtlbpjcphhocdkabGreatDoor.Run
set_option linter.unusedVariables false

set_option maxHeartbeats 4000000 in
theorem walk (a0 a1 a2 a3 a4 a5 a6 a7 a8 a9 : Int) (sa : Option Addr) (cap : Nat) (l : List Stp) (w : World) (i0 : I64 a0) (i1 : I64 a1) (i2 : I64 a2) (i3 : I64 a3) (i4 : I64 a4) (i5 : I64 a5) (i6 : I64 a6) (i7 : I64 a7) (i8 : I64 a8) (i9 : I64 a9) (hs : ScrAt w sa l) (ho : ∀ o ∈ l, StpOk o) (hl : l.length ≤ 2000000000000) (ht : Tab w w.heap.size) :
    Calls Tryz.prog 9 #[rawV a0 a1 a2 a3 a4 a5 a6 a7 a8 a9, .slice sa l.length cap] w fun e w' => e = .returned (.bool true) ∧ Below w.heap.size w w' := by
  have HF := hide (fun W ht => begin_run a0 a1 a2 a3 a4 a5 a6 a7 a8 a9 true W i0 i1 i2 i3 i4 i5 i6 i7 i8 i9 ht)
  have HT := hide ht
  have HSc := hide hs
  have HO := hide ho
  unfold rawV at *
  clear i0 i1 i2 i3 i4 i5 i6 i7 i8 i9 ht hs ho
  go_enter Tryz.func9, Tryz.ntmps9
  go_wp2_with fail
  have B1 := (Below.refl w.heap.size w).alloc (Nat.le_refl _) (.cells #[.int .i64 a0, .int .i64 a1, .int .i64 a2, .int .i64 a3, .int .i64 a4, .int .i64 a5, .int .i64 a6, .int .i64 a7, .int .i64 a8, .int .i64 a9] 23)
  generalize w.alloc (.cells #[.int .i64 a0, .int .i64 a1, .int .i64 a2, .int .i64 a3, .int .i64 a4, .int .i64 a5, .int .i64 a6, .int .i64 a7, .int .i64 a8, .int .i64 a9] 23) = W1 at *
  refine (HF.out W1 ((HT.out.keep fun g hg => B1.block g hg).more B1.size)).mono ?_
  rintro e w1 ⟨A, r, rfl, h1, hB⟩
  have H1 : Hid (Hs w w1 A r) := ⟨h1.1.mono fun g k => Nat.le_trans B1.size k, below_step B1 h1.2⟩
  have HB := hide hB
  clear h1 hB B1
  go_wp2_with fail
  refine (play_run w A true sa cap l r _ H1.out HB.out.pi HSc.out HO.out hl HT.out).mono ?_
  rintro e w2 ⟨rfl, r2, h2, hp2⟩
  have HS0 := hide (DdR.start h2)
  have HP2 : Hid (DP (l.length + 1) 900000 r2 (0, 0) (0, 0)) := ⟨Ded.new hp2.book hp2.w, hp2.ok, hp2.la, hp2.lb, by omega, by omega⟩
  have hnn : l.length + 1 ≤ 3000000000000 := by omega
  clear h2 hp2
  go_wp2_with fail
  refine wp_at (fun W => DdR w A w2.heap.size (w2.heap.size + 1) (0, 0) (0, 0) r2 W) HS0.out ?_
  intro W4 h4
  generalize w2.heap.size = gk at *
  generalize gk + 1 = gm at *
  obtain ⟨_, _, k6, k7, _, k9⟩ := h4.run.cfg
  have hc := HP2.out.d.book.good.c
  have c1 := hc.second
  have c2 := hc.reply
  have c3 := hc.tries
  have c4 := hc.lost
  have hpm : (r2.x.c.tries + 3) * (r2.x.c.second + r2.x.c.reply) ≤ 10 * 40 := Nat.mul_le_mul (by omega) (by omega)
  have hpi : ((r2.x.c.tries : Int) + 3) * ((r2.x.c.second : Int) + (r2.x.c.reply : Int)) = (((r2.x.c.tries + 3) * (r2.x.c.second + r2.x.c.reply) : Nat) : Int) := by simp
  have HTd : Hid (turnD r2.x.c = (r2.x.c.tries + 3) * (r2.x.c.second + r2.x.c.reply) + 8) := rfl
  have x1 : IntKind.i64.wrap ((r2.x.c.tries : Int) + 3) = (r2.x.c.tries : Int) + 3 := wrap_in _ (by omega) (by omega)
  have x2 : IntKind.i64.wrap ((r2.x.c.second : Int) + (r2.x.c.reply : Int)) = (r2.x.c.second : Int) + (r2.x.c.reply : Int) := wrap_in _ (by omega) (by omega)
  have x3 : IntKind.i64.wrap (((r2.x.c.tries : Int) + 3) * ((r2.x.c.second : Int) + (r2.x.c.reply : Int))) = (((r2.x.c.tries + 3) * (r2.x.c.second + r2.x.c.reply) : Nat) : Int) := by rw [hpi]; exact wrap_in _ (by omega) (by omega)
  generalize hpv : (r2.x.c.tries + 3) * (r2.x.c.second + r2.x.c.reply) = pv at *
  have x4 : IntKind.i64.wrap ((pv : Int) + 8) = (pv : Int) + 8 := by rw [IntKind.wrap_i64]; omega
  have H4 := hide h4
  have HHc := hide hc
  clear hpi h4 hc hpv
  go_quiet (fail)
  refine exit_at (fun W => DdR w A gk gm (0, 0) (0, 0) r2 W) (H4.out.drewN nq) ?_
  clear k6 k7 k9 H4
  intro W5 h5
  obtain ⟨_, _, _, _, k8, _⟩ := h5.run.cfg
  have hlf := Run.Book.left HP2.out.d.book
  have hq : (leftN r2 + 1) * (pv + 8) ≤ 17 * 408 := Nat.mul_le_mul (by omega) (by omega)
  have hqi : ((leftN r2 : Int) + 1) * ((pv : Int) + 8) = (((leftN r2 + 1) * (pv + 8) : Nat) : Int) := by simp
  have y1 : IntKind.i64.wrap ((leftN r2 : Int) + 1) = (leftN r2 : Int) + 1 := wrap_in _ (by omega) (by omega)
  have y2 : IntKind.i64.wrap (((leftN r2 : Int) + 1) * ((pv : Int) + 8)) = (((leftN r2 + 1) * (pv + 8) : Nat) : Int) := by rw [hqi]; exact wrap_in _ (by omega) (by omega)
  generalize hqv : (leftN r2 + 1) * (pv + 8) = qv at *
  have y3 : IntKind.i64.wrap ((r2.x.c.lost : Int) + (qv : Int)) = (r2.x.c.lost : Int) + (qv : Int) := by rw [IntKind.wrap_i64]; omega
  have HTl : Hid (Tl r2 (r2.x.c.lost + qv)) := by have := Tl.start HP2.out.d.book; rw [HTd.out, hqv] at this; exact this
  have H5 := hide h5
  have hqb : r2.x.c.lost + qv ≤ 10000 := by omega
  clear h5 hqi hqv hlf x1 x2 x3 x4
  go_wp2_with fail
  refine region_only (DdA w A gk gm r2 (Td8 A gk gm r2.x.c.lost qv)) ?_ ?_
  · go_region_held3 (fun W => W.cell? ⟨A.rb, 8, none⟩ = some (.int .i64 r2.x.c.lost)) (exact k8)
      ((go_at_call 15; refine (left_run _ A r2 _ (H5.out.run.below ?_) HP2.out.d.book.a.t HP2.out.d.book.b.t (by have := HP2.out.la; omega) (by have := HP2.out.lb; omega)).mono ?_; (repeat' (with_reducible (first | apply Below.drew | apply below_drewN | exact Below.refl _ _))); rintro e w6 ⟨rfl, nd6, rfl⟩))
    all_goals (refine ⟨⟨rfl, rfl⟩, H5.out.below ?_⟩; (repeat' (with_reducible (first | apply Below.drew | apply below_drewN | exact Below.refl _ _))))
  rintro a6 W6 ⟨htk, h6⟩
  obtain ⟨u, rfl⟩ := htk.use
  have HS : Hid (DlR w A gk gm (l.length + 1) (r2.x.c.lost + qv) W6) := ⟨r2, (0, 0), (0, 0), h6, ⟨HP2.out.d, HP2.out.ok, HP2.out.la, HP2.out.lb, by omega, by omega⟩, HTl.out⟩
  rw [show ((r2.x.c.lost : Int) + (qv : Int)) = ((r2.x.c.lost + qv : Nat) : Int) by omega]
  generalize r2.x.c.lost + qv = N1 at *
  clear htk h6 k8 H5 HTl HP2
  go_wp2
  go_loopw [9] (fun i wr => ∃ k : Nat, i = .int .i64 k ∧ k ≤ 10000 ∧ Hid (DlR w A gk gm (l.length + 1) k wr)) (fun i _ => (intOf i).toNat)
  case atStart => exact ⟨N1, rfl, hqb, HS⟩
  case round =>
    obtain ⟨kk, rfl, hkk, HR⟩ := hrel
    obtain ⟨r3, k, m, hD, hP, hT⟩ := HR.out
    by_cases hk0 : 0 < kk
    · obtain ⟨k', rfl⟩ : ∃ k', kk = k' + 1 := ⟨kk - 1, by omega⟩
      have hk0' : (0 : Int) < ((k' + 1 : Nat) : Int) := by omega
      have wk : IntKind.i64.wrap (((k' + 1 : Nat) : Int) - 1) = k' := by rw [IntKind.wrap_i64]; omega
      have HD := hide hD
      have HP := hide hP
      have HTt := hide hT
      clear hD hP hT HR HS
      go_wp2_with fail
      refine (left_d w A gk gm (l.length + 1) _ r3 k m _ HD.out HP.out hnn).mono ?_
      rintro e w7 ⟨rfl, nd, rfl⟩
      by_cases hl0 : 0 < leftN r3
      · have hl0' : (0 : Int) < (leftN r3 : Int) := by omega
        have HD2 := hide (HD.out.drewN nd)
        clear hl0
        generalize leftN r3 = L at *
        go_wp2_with fail
        refine (dead_call w A gk gm (l.length + 1) _ r3 k m _ HD2.out HP.out hnn).mono ?_
        rintro e w8 ⟨rfl, h8⟩
        have HK : Hid (DlR w A gk gm (l.length + 1) k' w8) := ⟨_, _, _, h8, (show DP (l.length + 1) (k' + 300 + 1) r3 k m from ⟨HP.out.d, HP.out.ok, HP.out.la, HP.out.lb, by have := HP.out.k1; omega, by have := HP.out.m1; omega⟩).step, Tl.step HP.out.d HTt.out⟩
        clear h8
        go_wp2
        go_roundw
        case rel => exact ⟨k', by go_num, by omega, HK⟩
        case measure => simp [intOf]
      · have hz : leftN r3 = 0 := by omega
        have HDx := hide (HD.out.drewN nd)
        have HP3 : Hid (DP (l.length + 1) 300 r3 k m) := ⟨HP.out.d, HP.out.ok, HP.out.la, HP.out.lb, by have := HP.out.k1; omega, by have := HP.out.m1; omega⟩
        have HZ := hide hz
        rw [hz]
        clear hl0 hz HD HP HTt
        have hlo := HP3.out.d.book.good.c.lost.2
        have HS2 := hide (show DsR w A gk gm (l.length + 1) (r3.x.now + r3.x.c.lost) r3.x.c.lost (r3.x.c.lost + 3) _ from ⟨r3, k, m, HDx.out, ⟨HP3.out.d, HP3.out.ok, HP3.out.la, HP3.out.lb, by have := HP3.out.k1; omega, by have := HP3.out.m1; omega⟩, HP3.out.d.sil0 HZ.out, by omega, Or.inl rfl, HZ.out⟩)
        obtain ⟨_, _, _, _, k8, _⟩ := HDx.out.run.cfg
        generalize r3.x.now + r3.x.c.lost = D at *
        generalize r3.x.c.lost = lo at *
        have wl : IntKind.i64.wrap ((lo : Int) + 3) = lo + 3 := wrap_in _ (by omega) (by omega)
        clear HDx HP3 HZ
        go_wp2
        go_loopw [11] (fun i wr => ∃ q : Nat, i = .int .i64 q ∧ q ≤ 258 ∧ Hid (DsR w A gk gm (l.length + 1) D lo q wr)) (fun i _ => (intOf i).toNat)
        case atStart => exact ⟨lo + 3, by go_num, by omega, HS2⟩
        case round =>
          obtain ⟨q, rfl, hq, HR⟩ := hrel
          obtain ⟨r4, k4, m4, hD, hP, hS, hN, hO, hL⟩ := HR.out
          by_cases hq0 : 0 < q
          · obtain ⟨q', rfl⟩ : ∃ q', q = q' + 1 := ⟨q - 1, by omega⟩
            have hq0' : (0 : Int) < ((q' + 1 : Nat) : Int) := by omega
            have wq : IntKind.i64.wrap (((q' + 1 : Nat) : Int) - 1) = q' := by rw [IntKind.wrap_i64]; omega
            have HD := hide hD
            have HP := hide hP
            have HSl := hide hS
            have HN := hide hN
            clear hD hP hS hN hO hL HR HS2
            go_wp2_with fail
            refine (dead_call w A gk gm (l.length + 1) _ r4 k4 m4 _ HD.out HP.out hnn).mono ?_
            rintro e w8 ⟨rfl, h8⟩
            have HK : Hid (DsR w A gk gm (l.length + 1) D lo q' w8) := by
              obtain ⟨z1, z2, z3, z4, _⟩ := HP.out.d.sil HSl.out
              have hst := HP.out.step
              refine ⟨_, _, _, h8, hst, z1, ?_, Or.inr ⟨z2, z3⟩, ?_⟩
              · rw [z4]; have := HN.out; omega
              · rw [left_q hst.d.book, z1.q0, z1.q1]; rfl
            clear h8
            go_wp2
            go_roundw
            case rel => exact ⟨q', by go_num, by omega, HK⟩
            case measure => simp [intOf]
          · have hq0' : ¬ (0 : Int) < (q : Int) := by omega
            obtain ⟨o0, o1⟩ : r4.x.on0 = [] ∧ r4.x.on1 = [] := by
              rcases hO with z | z
              · omega
              · exact z
            obtain ⟨e0, e1, e2⟩ := hP.d.idle hS (by omega)
            obtain ⟨c0, _⟩ := hD.run.cells
            have HD := hide hD
            have HP := hide hP
            clear hD hP hS hN hO hL HR HS2 hq0
            go_wp2_with fail
            refine (onLine_run _ A r4 0 _ HD.out.run).mono ?_
            rintro e w5' ⟨rfl, hb5⟩
            rw [show onOf r4.x 0 = [] from o0]
            have H5' := hide (HD.out.below hb5)
            obtain ⟨c0a, _⟩ := H5'.out.run.cells
            clear hb5 c0
            go_wp2_with fail
            refine (onLine_run _ A r4 1 _ H5'.out.run).mono ?_
            rintro e w6' ⟨rfl, hb6⟩
            rw [show onOf r4.x 1 = [] from o1]
            have H6' := hide (H5'.out.below hb6)
            obtain ⟨c0b, _⟩ := H6'.out.run.cells
            clear hb6 c0a
            go_wp2_with fail
            refine (look_run _ A r4 0 _ H6'.out.run).mono ?_
            rintro e w7' ⟨rfl, hb7⟩
            rw [show lookOf r4.x 0 = .agg #[.int .i64 r4.x.s0.mode, .int .i64 r4.x.s0.queue.length, .bool r4.x.s0.busy] from rfl, e0]
            have H7' := hide (H6'.out.below hb7)
            obtain ⟨c0c, _⟩ := H7'.out.run.cells
            have hrb7 := H7'.out.run.lt.1
            have hne7 : A.rb ≠ w7'.heap.size := by omega
            clear hb7 c0b
            go_wp2_with fail
            have X0 := VwAt.new w7' (.int .i64 ((0 : Nat) : Int)) (.int .i64 r4.x.s0.queue.length) (.bool r4.x.s0.busy)
            have HA := hide (H7'.out.below (Below.allocN (Below.refl w7'.heap.size w7') (.cells #[.int .i64 ((0 : Nat) : Int), .int .i64 r4.x.s0.queue.length, .bool r4.x.s0.busy] 50)))
            generalize hWe : w7'.alloc (.cells #[.int .i64 ((0 : Nat) : Int), .int .i64 r4.x.s0.queue.length, .bool r4.x.s0.busy] 50) = W8 at *
            refine (look_run _ A r4 1 _ HA.out.run).mono ?_
            rintro e w9' ⟨rfl, hb9⟩
            rw [show lookOf r4.x 1 = .agg #[.int .i64 r4.x.s1.mode, .int .i64 r4.x.s1.queue.length, .bool r4.x.s1.busy] from rfl, e1]
            have X1 : VwAt w9' w7'.heap.size _ _ _ := (hb9.block _ (lt_of_block X0)).trans X0
            have H9' := hide (HA.out.below hb9)
            have hrb9 := H9'.out.run.lt.1
            have hlt9 := lt_of_block X1
            clear hb9 X0 c0c hWe
            generalize w7'.heap.size = g7 at *
            go_wp2_with fail
            have Y0 := VwAt.new w9' (.int .i64 ((0 : Nat) : Int)) (.int .i64 r4.x.s1.queue.length) (.bool r4.x.s1.busy)
            have bA := Below.allocN (Below.refl w9'.heap.size w9') (.cells #[.int .i64 ((0 : Nat) : Int), .int .i64 r4.x.s1.queue.length, .bool r4.x.s1.busy] 50)
            have X2 : VwAt _ g7 _ _ _ := (bA.block _ hlt9).trans X1
            have HB' := hide (H9'.out.below bA)
            generalize hWf : w9'.alloc (.cells #[.int .i64 ((0 : Nat) : Int), .int .i64 r4.x.s1.queue.length, .bool r4.x.s1.busy] 50) = W10 at *
            refine (left_d w A gk gm (l.length + 1) _ r4 k4 m4 _ HB'.out HP.out hnn).mono ?_
            rintro e w11' ⟨rfl, nd11, rfl⟩
            rw [e2]
            obtain ⟨v0, _, _⟩ := X2.cell
            obtain ⟨v1, _, _⟩ := Y0.cell
            have HBl := hide (below_drewN HB'.out.bel nd11)
            clear X1 X2 Y0 bA hWf
            generalize w9'.heap.size = g9 at *
            go_wp2
            go_ret
            exact ⟨rfl, HBl.out⟩
    · have hkz : kk = 0 := by omega
      have hk0' : ¬ (0 : Int) < (kk : Int) := by omega
      rw [hkz] at hT
      have hz := Tl.end' hP.d hT
      have HDx := hide hD
      have HP3 : Hid (DP (l.length + 1) 300 r3 k m) := ⟨hP.d, hP.ok, hP.la, hP.lb, by have := hP.k1; omega, by have := hP.m1; omega⟩
      have HZ := hide hz
      clear hz hD hP hT HR HS hkz hk0
      have hlo := HP3.out.d.book.good.c.lost.2
      have HS2 := hide (show DsR w A gk gm (l.length + 1) (r3.x.now + r3.x.c.lost) r3.x.c.lost (r3.x.c.lost + 3) _ from ⟨r3, k, m, HDx.out, ⟨HP3.out.d, HP3.out.ok, HP3.out.la, HP3.out.lb, by have := HP3.out.k1; omega, by have := HP3.out.m1; omega⟩, HP3.out.d.sil0 HZ.out, by omega, Or.inl rfl, HZ.out⟩)
      obtain ⟨_, _, _, _, k8, _⟩ := HDx.out.run.cfg
      generalize r3.x.now + r3.x.c.lost = D at *
      generalize r3.x.c.lost = lo at *
      have wl : IntKind.i64.wrap ((lo : Int) + 3) = lo + 3 := wrap_in _ (by omega) (by omega)
      clear HDx HP3 HZ
      go_wp2
      go_loopw [11] (fun i wr => ∃ q : Nat, i = .int .i64 q ∧ q ≤ 258 ∧ Hid (DsR w A gk gm (l.length + 1) D lo q wr)) (fun i _ => (intOf i).toNat)
      case atStart => exact ⟨lo + 3, by go_num, by omega, HS2⟩
      case round =>
        obtain ⟨q, rfl, hq, HR⟩ := hrel
        obtain ⟨r4, k4, m4, hD, hP, hS, hN, hO, hL⟩ := HR.out
        by_cases hq0 : 0 < q
        · obtain ⟨q', rfl⟩ : ∃ q', q = q' + 1 := ⟨q - 1, by omega⟩
          have hq0' : (0 : Int) < ((q' + 1 : Nat) : Int) := by omega
          have wq : IntKind.i64.wrap (((q' + 1 : Nat) : Int) - 1) = q' := by rw [IntKind.wrap_i64]; omega
          have HD := hide hD
          have HP := hide hP
          have HSl := hide hS
          have HN := hide hN
          clear hD hP hS hN hO hL HR HS2
          go_wp2_with fail
          refine (dead_call w A gk gm (l.length + 1) _ r4 k4 m4 _ HD.out HP.out hnn).mono ?_
          rintro e w8 ⟨rfl, h8⟩
          have HK : Hid (DsR w A gk gm (l.length + 1) D lo q' w8) := by
            obtain ⟨z1, z2, z3, z4, _⟩ := HP.out.d.sil HSl.out
            have hst := HP.out.step
            refine ⟨_, _, _, h8, hst, z1, ?_, Or.inr ⟨z2, z3⟩, ?_⟩
            · rw [z4]; have := HN.out; omega
            · rw [left_q hst.d.book, z1.q0, z1.q1]; rfl
          clear h8
          go_wp2
          go_roundw
          case rel => exact ⟨q', by go_num, by omega, HK⟩
          case measure => simp [intOf]
        · have hq0' : ¬ (0 : Int) < (q : Int) := by omega
          obtain ⟨o0, o1⟩ : r4.x.on0 = [] ∧ r4.x.on1 = [] := by
            rcases hO with z | z
            · omega
            · exact z
          obtain ⟨e0, e1, e2⟩ := hP.d.idle hS (by omega)
          obtain ⟨c0, _⟩ := hD.run.cells
          have HD := hide hD
          have HP := hide hP
          clear hD hP hS hN hO hL HR HS2 hq0
          go_wp2_with fail
          refine (onLine_run _ A r4 0 _ HD.out.run).mono ?_
          rintro e w5' ⟨rfl, hb5⟩
          rw [show onOf r4.x 0 = [] from o0]
          have H5' := hide (HD.out.below hb5)
          obtain ⟨c0a, _⟩ := H5'.out.run.cells
          clear hb5 c0
          go_wp2_with fail
          refine (onLine_run _ A r4 1 _ H5'.out.run).mono ?_
          rintro e w6' ⟨rfl, hb6⟩
          rw [show onOf r4.x 1 = [] from o1]
          have H6' := hide (H5'.out.below hb6)
          obtain ⟨c0b, _⟩ := H6'.out.run.cells
          clear hb6 c0a
          go_wp2_with fail
          refine (look_run _ A r4 0 _ H6'.out.run).mono ?_
          rintro e w7' ⟨rfl, hb7⟩
          rw [show lookOf r4.x 0 = .agg #[.int .i64 r4.x.s0.mode, .int .i64 r4.x.s0.queue.length, .bool r4.x.s0.busy] from rfl, e0]
          have H7' := hide (H6'.out.below hb7)
          obtain ⟨c0c, _⟩ := H7'.out.run.cells
          have hrb7 := H7'.out.run.lt.1
          have hne7 : A.rb ≠ w7'.heap.size := by omega
          clear hb7 c0b
          go_wp2_with fail
          have X0 := VwAt.new w7' (.int .i64 ((0 : Nat) : Int)) (.int .i64 r4.x.s0.queue.length) (.bool r4.x.s0.busy)
          have HA := hide (H7'.out.below (Below.allocN (Below.refl w7'.heap.size w7') (.cells #[.int .i64 ((0 : Nat) : Int), .int .i64 r4.x.s0.queue.length, .bool r4.x.s0.busy] 50)))
          generalize hWe : w7'.alloc (.cells #[.int .i64 ((0 : Nat) : Int), .int .i64 r4.x.s0.queue.length, .bool r4.x.s0.busy] 50) = W8 at *
          refine (look_run _ A r4 1 _ HA.out.run).mono ?_
          rintro e w9' ⟨rfl, hb9⟩
          rw [show lookOf r4.x 1 = .agg #[.int .i64 r4.x.s1.mode, .int .i64 r4.x.s1.queue.length, .bool r4.x.s1.busy] from rfl, e1]
          have X1 : VwAt w9' w7'.heap.size _ _ _ := (hb9.block _ (lt_of_block X0)).trans X0
          have H9' := hide (HA.out.below hb9)
          have hrb9 := H9'.out.run.lt.1
          have hlt9 := lt_of_block X1
          clear hb9 X0 c0c hWe
          generalize w7'.heap.size = g7 at *
          go_wp2_with fail
          have Y0 := VwAt.new w9' (.int .i64 ((0 : Nat) : Int)) (.int .i64 r4.x.s1.queue.length) (.bool r4.x.s1.busy)
          have bA := Below.allocN (Below.refl w9'.heap.size w9') (.cells #[.int .i64 ((0 : Nat) : Int), .int .i64 r4.x.s1.queue.length, .bool r4.x.s1.busy] 50)
          have X2 : VwAt _ g7 _ _ _ := (bA.block _ hlt9).trans X1
          have HB' := hide (H9'.out.below bA)
          generalize hWf : w9'.alloc (.cells #[.int .i64 ((0 : Nat) : Int), .int .i64 r4.x.s1.queue.length, .bool r4.x.s1.busy] 50) = W10 at *
          refine (left_d w A gk gm (l.length + 1) _ r4 k4 m4 _ HB'.out HP.out hnn).mono ?_
          rintro e w11' ⟨rfl, nd11, rfl⟩
          rw [e2]
          obtain ⟨v0, _, _⟩ := X2.cell
          obtain ⟨v1, _, _⟩ := Y0.cell
          have HBl := hide (below_drewN HB'.out.bel nd11)
          clear X1 X2 Y0 bA hWf
          generalize w9'.heap.size = g9 at *
          go_wp2
          go_ret
          exact ⟨rfl, HBl.out⟩

theorem lifted (os : Os) (started : os.Started) (H : Type) (enc : TypeId × Value → H) :
    ReturnsInHanded {} Tryz.checked os 9 .any (fun w args => (Rows.deadSpec.pre enc Tryz.prog Tryz.f9 [] false w args ∧ laidMetH Tryz.prog laid3 w) ∧ sizedMet enc Tryz.prog Tryz.f9 (OpenSpec.ofChange Rows.deadSpec) false w args)
      (Rows.deadSpec.post enc Tryz.prog Tryz.f9 false true false false) := by
  refine returnsInHanded_of_change_and (C := Tryz.checked) (X := fun w _ => laidMetH Tryz.prog laid3 w) (fun _ _ _ hh h => h.of_heap hh) own started (by kernel_rfl) Tryz.func9
    (ChangeSpec.witness_shaped (enc := enc) (C := Tryz.checked) (os := os) (X := fun w _ => laidMetH Tryz.prog laid3 w) false (World.doorLaid Tryz.prog 400 os) #[.agg #[.int .i64 0, .int .i64 0, .int .i64 0, .int .i64 0, .int .i64 0, .int .i64 0, .int .i64 0, .int .i64 0, .int .i64 0, .int .i64 0], .slice none 0 0] 8 rfl (World.shaped_of_RefB (by kernel_rfl) (by kernel_rfl)) (by kernel_rfl) (by kernel_rfl) (by kernel_rfl) (door_met os _)) ?_
  intro W base args ds gs before hval0 hW hcnd hsz0 hL _
  have hval : ∀ (j : Nat) t v, Tryz.f9.params[j]? = some t → args[j]? = some v → Value.okWide Tryz.prog W .any base t v := hval0
  have hsz : (DataW.weightsEach Tryz.prog (Tryz.f9.params.toList ++ Rows.deadSpec.plain.varTypes Tryz.prog) (ds ++ gs)).all (· ≤ reachBytes) = true := hsz0
  have hW' := hW
  obtain ⟨p, q, hA0, hV, rfl, hfz, hnd⟩ := hW
  have hA : DataW.TrodAll enc Tryz.prog W 0 (fun _ => true) true Tryz.f9.params.toList args.toList ds p := hA0
  rw [Tryz.params9] at hA hval hsz
  obtain ⟨v0, vs0, d0, ds0, p0, q0, hargs, rfl, rfl, h0, r0⟩ := trodAll_cons hA
  obtain ⟨v1, vs1, d1, ds1, p1, q1, rfl, rfl, rfl, h1, r1⟩ := trodAll_cons r0
  obtain ⟨rfl, rfl, rfl⟩ := trodAll_nil r1
  obtain rfl : args = #[v0, v1] := by cases args; simp_all
  obtain ⟨rfl, rfl⟩ := trodVars_none hV
  have k0 := h0
  have k1 := h1
  have lt0 : ∀ x ∈ p0, x.block < W.heap.size := by obtain ⟨m, hm⟩ := k0; exact DataW.trod_lt m _ _ _ hm
  have lt1 : ∀ x ∈ p1, x.block < W.heap.size := by obtain ⟨m, hm⟩ := k1; exact DataW.trod_lt m _ _ _ hm
  obtain ⟨a0, a1, a2, a3, a4, a5, a6, a7, a8, a9, rfl, i0, i1, i2, i3, i4, i5, i6, i7, i8, i9⟩ := open_cfg (hval 0 23 v0 rfl rfl) h0
  obtain ⟨a, l, cap, rfl, hs, hi, hd⟩ := open_script (hval 1 45 v1 rfl rfl) h1
  obtain ⟨b1, b2⟩ := script_reach (j := 1) hsz rfl rfl hd
  have hT := of_laid hL
  clear hA0 hval0 hsz0 hsz
  refine (walk a0 a1 a2 a3 a4 a5 a6 a7 a8 a9 a cap l W i0 i1 i2 i3 i4 i5 i6 i7 i8 i9 hs (fun o ho => ⟨(hi o ho).1, (hi o ho).2.1, (hi o ho).2.2, (b2 o ho).1, (b2 o ho).2⟩) b1 hT).mono fun e W' ⟨he, bel⟩ => ?_
  subst he
  exact ⟨_, rfl, _, _, _, [], _, [], hW', trodAll_mk1 (shut_bool Tryz.underlying4 _), (trodAll_cons_mk (Below.trod laidOut (by kernel_rfl) (of_decide_eq_true (by kernel_rfl)) k0 bel lt0) (trodAll_cons_mk (Below.trod laidOut (by kernel_rfl) (of_decide_eq_true (by kernel_rfl)) k1 bel lt1) trodAll_mk0)), rfl, bel.frame _, fun h => by cases h⟩

theorem over : Rows.deadRow.holds Tryz.pinned (OpenSpec.ofChange Rows.deadSpec) :=
  OpenClaim.holds_of_wide 9 Tryz.f9 rfl rfl rfl rfl rfl rfl rfl ⟨rfl, rfl, rfl, rfl, rfl⟩ rfl rfl rfl rfl rfl (by kernel_rfl) Tryz.func9 (by kernel_rfl)
    (of_decide_eq_true (by kernel_rfl)) (by unfold Func.isWrapper; first | (rw [if_pos (by decide +kernel)]; kernel_rfl) | (rw [if_neg (by decide +kernel)]; exact ⟨rfl, rfl⟩))
    (fun os started H enc _ => lifted os started H enc)
end Go.Proofs.YtlbpjcphhocdkabGreatDoor.dead
namespace Go.Proofs.YtlbpjcphhocdkabGreatDoor
theorem dead_holds : Rows.DeadCardSaid :=
  Claim7.holds_tied_plain_at .later [] [.data, .data, .data] true (true, "83546ea0d44c0dbf0d10714a4aa846266200a9a0f88a82075b26f9612e90402b") false
    dead.over (fun _ h => by cases h) (by kernel_rfl) (fun _ h => by cases h) dead_row_tie rfl ⟨rfl, rfl⟩ (by kernel_rfl) rfl
    (fun f fn hf hfn => by
      obtain rfl : f = 9 := Option.some.inj ((show Tryz.prog.funcNamed "duplex/duplexkeep.Dead" = some 9 by kernel_rfl).symm.trans hf) |>.symm
      obtain rfl : fn = Tryz.f9 := (Option.some.inj (Tryz.func9.symm.trans hfn)).symm
      exact ⟨by kernel_rfl, fun j t ht => by
        rw [Tryz.params9] at ht
        rcases j with _ | _ | j
        · obtain rfl : 23 = t := by simpa using ht
          kernel_rfl
        · obtain rfl : 45 = t := by simpa using ht
          kernel_rfl
        · simp at ht⟩)
    (by kernel_rfl)
#print axioms dead_holds
end Go.Proofs.YtlbpjcphhocdkabGreatDoor
