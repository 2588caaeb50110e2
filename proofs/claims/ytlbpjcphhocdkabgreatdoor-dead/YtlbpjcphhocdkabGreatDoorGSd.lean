/-What a station does in a tick: Receiving, and all of it. What a station does in a tick, whole. What a station hears. The line in memory; a tick goes by. Of no program: append, and where its answer lies: in the old block, or in a new one. -/
import Derived.Test.YtlbpjcphhocdkabGreatDoorGSc
import Derived.Test.YtlbpjcphhocdkabGreatDoorOwn
import Derived.ArgAppend
namespace Go.Proofs.YtlbpjcphhocdkabGreatDoor
open Go.RowKit Go.Proofs.YtlbpjcphhocdkabGreatDoor.Mod Go.Proofs.YtlbpjcphhocdkabGreatDoor.Pst

/-- What is heard, as a value; its texts lie in memory, none of them in the block b. -/
def HrdV (w : World) (b : Nat) (x : Value) : Ans → Prop
  | .data h ps c t => ∃ a cap lb, x = .agg #[.int .i64 2, .string ⟨h.toArray⟩, .slice a (List.length lb) cap, .bool c, .bool t] ∧ Texts w a lb ∧ (∀ g of, a = some ⟨g, of, none⟩ → lb ≠ [] → g ≠ b) ∧ datas lb = ps ∧ Blk.berr h ps c = 0
  | .none n => x = zHeard n ∧ n ≠ 2

theorem HrdV.below {w w' : World} {b : Nat} {x : Value} {A : Ans} (h : HrdV w b x A) (k : Below w.heap.size w w') : HrdV w' b x A := by
  cases A with
  | data h1 ps1 c1 t1 =>
    obtain ⟨a, cap, lb, e1, e2, e3⟩ := h
    exact ⟨a, cap, lb, e1, e2.below k, e3⟩
  | none n => exact h
theorem HrdV.bes {w w' : World} {b o : Nat} {x : Value} {A : Ans} (h : HrdV w b x A) (k : Bes b o w w') : HrdV w' b x A := by
  cases A with
  | data h1 ps1 c1 t1 =>
    obtain ⟨a, cap, lb, e1, e2, e3, e4⟩ := h
    exact ⟨a, cap, lb, e1, Bes.tx e2 k e3, e3, e4⟩
  | none n => exact h

theorem HrdAt.at {w : World} {g : Nat} (hg : w.heap.size = g) (n h v c t : Value) : HrdAt (w.alloc (.cells #[n, h, v, c, t] 91)) g n h v c t := by subst hg; exact heap_alloc_new w _
theorem HrdAt.bes {w w' : World} {b o g : Nat} {n h v c t : Value} (x : HrdAt w g n h v c t) (k : Bes b o w w') (hb : b ≠ g) : HrdAt w' g n h v c t := (k.block g (lt_of_block x) hb.symm).trans x

set_option maxHeartbeats 1000000 in
set_option maxRecDepth 1000000 in
theorem actReceiving_any (F : Nat → Prop) (b o : Nat) (s : PS) (A : Ans) (x : Value) (c : Cfg) (w : World) (h : StAt w F b o s) (hF : ∀ x, F x → x < w.heap.size) (hx : HrdV w b x A) (hp : PSOk c s) (hm : s.mode = 3) :
    Calls Tryz.prog 59 #[.pointer (some ⟨b, o, none⟩), x, cfgV c] w fun e w' => Tells w F b o (actReceiving A c s) e w' := by
  have hlt := h.lt
  have hne : b ≠ w.heap.size := by omega
  have hne1 : b ≠ w.heap.size + 1 := by omega
  have hne2 : b ≠ w.heap.size + 1 + 1 := by omega
  have HN := hide h.nb
  obtain ⟨hy, hh, ht⟩ := hp.rcv hm
  have c6 := h.wait
  have HY := hide hy
  clear hy hp
  unfold cfgV
  cases A with
  | data hd ps cl la =>
    obtain ⟨a, cap, lb, rfl, e2, e3, e4, e5⟩ := hx
    have HR : Hid (StAt (((w.alloc (.cells #[.int .i64 2, .string ⟨hd.toArray⟩, .slice a lb.length cap, .bool cl, .bool la] 91)).alloc (.cells (cfgCells c) 23)).alloc (.cells zeroEv 38)) F b o s ∧ Bes b o w (((w.alloc (.cells #[.int .i64 2, .string ⟨hd.toArray⟩, .slice a lb.length cap, .bool cl, .bool la] 91)).alloc (.cells (cfgCells c) 23)).alloc (.cells zeroEv 38)) ∧ CfgAt (((w.alloc (.cells #[.int .i64 2, .string ⟨hd.toArray⟩, .slice a lb.length cap, .bool cl, .bool la] 91)).alloc (.cells (cfgCells c) 23)).alloc (.cells zeroEv 38)) (w.heap.size + 1) c ∧ Ev0 (((w.alloc (.cells #[.int .i64 2, .string ⟨hd.toArray⟩, .slice a lb.length cap, .bool cl, .bool la] 91)).alloc (.cells (cfgCells c) 23)).alloc (.cells zeroEv 38)) (w.heap.size + 1 + 1) ∧ HrdAt (((w.alloc (.cells #[.int .i64 2, .string ⟨hd.toArray⟩, .slice a lb.length cap, .bool cl, .bool la] 91)).alloc (.cells (cfgCells c) 23)).alloc (.cells zeroEv 38)) w.heap.size (.int .i64 2) (.string ⟨hd.toArray⟩) (.slice a lb.length cap) (.bool cl) (.bool la)) :=
      ⟨((h.alloc _).alloc _).alloc _, (((Bes.refl b o w).alloc hlt _).alloc (by simp; omega) _).alloc (by simp; omega) _, (CfgAt.at (by simp) c).alloc _, EvAt.new (by simp) _ _ _ _ _ _, ((HrdAt.at rfl _ _ _ _ _).alloc _).alloc _⟩
    have hz : w.heap.size + 1 + 1 < (((w.alloc (.cells #[.int .i64 2, .string ⟨hd.toArray⟩, .slice a lb.length cap, .bool cl, .bool la] 91)).alloc (.cells (cfgCells c) 23)).alloc (.cells zeroEv 38)).heap.size := by simp
    have HZ := hide hz
    have hBel : Below w.heap.size w (((w.alloc (.cells #[.int .i64 2, .string ⟨hd.toArray⟩, .slice a lb.length cap, .bool cl, .bool la] 91)).alloc (.cells (cfgCells c) 23)).alloc (.cells zeroEv 38)) := Below.allocN (Below.allocN (Below.allocN (Below.refl _ _) _) _) _
    have HBel := hide hBel
    clear hz hBel
    have HE : Hid (actReceiving (.data hd ps cl la) c s = receive ⟨hd, ps, cl, la⟩ (beginWait c s)) := rfl
    have HT := hide e2
    have HT3 := hide e3
    have HT4 := hide e4
    have HT5 := hide e5
    clear h e2 e3 e4 e5
    go_enter Tryz.func59, Tryz.ntmps59
    go_wp2_with fail
    refine (beginWait_any F b o s c _ HR.out.1).mono ?_
    rintro e w3 ⟨rfl, h3, b3⟩
    have X3 := HR.out.2.2.2.2.bes b3 hne
    obtain ⟨y0, y1, y2, y3, y4⟩ := X3.cell
    have T3 := hide (Bes.tx (HT.out.below HBel.out) b3 HT3.out)
    have HF3 : Hid (∀ x, F x → x < w3.heap.size) := fun x hx => by have h1 := hF x hx; have h2 := HBel.out.size; have h3 := b3.size; omega
    have hz3 : w.heap.size + 1 + 1 < w3.heap.size := by have h1 := HZ.out; have h2 := b3.size; omega
    have H3 := hide h3
    clear h3 X3
    go_wp2_with fail
    refine (receive_any F b o (beginWait c s) ⟨hd, ps, cl, la⟩ _ _ H3.out HF3.out ⟨a, cap, lb, rfl, T3.out, HT4.out, HT5.out⟩ HY.out hh ht).mono ?_
    rintro e w4 ⟨rfl, h4, b4⟩
    have b5 := b3.trans b4
    have HV4 := hide (Ev0.bes HR.out.2.2.2.1 b5 hne2)
    have HB4 := hide (HR.out.2.1.trans b5)
    have hs3 := (HR.out.2.1.trans b3).size
    obtain ⟨⟨x0, x1, x2, x3, x4, x5⟩, q0, q1, q2, q3, q4, q5⟩ := HV4.out.all
    have H4 := hide h4
    obtain ⟨ek, est, en, eh, et, ec, hev⟩ := evV_form (receive ⟨hd, ps, cl, la⟩ (beginWait c s)).2
    have HEV := hide hev
    rw [hev]
    clear h4 b4 b5 b3 hev y0 y1 y2 y3 y4
    go_wp2
    (try simp only [Exit.inBlock, Exit.then])
    refine bodyPost_ret (results_ev rfl _ _ (w.heap.size + 1 + 1) rfl (EvAt.all HV4.out)) rfl ?_
    rw [HE.out]
    exact ⟨by rw [HEV.out], ev_end H4.out HB4.out (Plus.sub hs3) (plus_ne hF (by omega) hz3) (by omega) hlt HN.out _ _ _ _ _ _⟩
  | none n =>
    obtain ⟨rfl, n2⟩ := hx
    unfold zHeard
    have HR : Hid (StAt (((w.alloc (.cells #[.int .i64 n, .string ⟨#[]⟩, .slice none 0 0, .bool false, .bool false] 91)).alloc (.cells (cfgCells c) 23)).alloc (.cells zeroEv 38)) F b o s ∧ Bes b o w (((w.alloc (.cells #[.int .i64 n, .string ⟨#[]⟩, .slice none 0 0, .bool false, .bool false] 91)).alloc (.cells (cfgCells c) 23)).alloc (.cells zeroEv 38)) ∧ CfgAt (((w.alloc (.cells #[.int .i64 n, .string ⟨#[]⟩, .slice none 0 0, .bool false, .bool false] 91)).alloc (.cells (cfgCells c) 23)).alloc (.cells zeroEv 38)) (w.heap.size + 1) c ∧ Ev0 (((w.alloc (.cells #[.int .i64 n, .string ⟨#[]⟩, .slice none 0 0, .bool false, .bool false] 91)).alloc (.cells (cfgCells c) 23)).alloc (.cells zeroEv 38)) (w.heap.size + 1 + 1) ∧ HrdAt (((w.alloc (.cells #[.int .i64 n, .string ⟨#[]⟩, .slice none 0 0, .bool false, .bool false] 91)).alloc (.cells (cfgCells c) 23)).alloc (.cells zeroEv 38)) w.heap.size (.int .i64 n) (.string ⟨#[]⟩) (.slice none 0 0) (.bool false) (.bool false)) :=
      ⟨((h.alloc _).alloc _).alloc _, (((Bes.refl b o w).alloc hlt _).alloc (by simp; omega) _).alloc (by simp; omega) _, (CfgAt.at (by simp) c).alloc _, EvAt.new (by simp) _ _ _ _ _ _, ((HrdAt.at rfl _ _ _ _ _).alloc _).alloc _⟩
    have hz : w.heap.size + 1 + 1 < (((w.alloc (.cells #[.int .i64 n, .string ⟨#[]⟩, .slice none 0 0, .bool false, .bool false] 91)).alloc (.cells (cfgCells c) 23)).alloc (.cells zeroEv 38)).heap.size := by simp
    have HZ := hide hz
    have hBel : Below w.heap.size w (((w.alloc (.cells #[.int .i64 n, .string ⟨#[]⟩, .slice none 0 0, .bool false, .bool false] 91)).alloc (.cells (cfgCells c) 23)).alloc (.cells zeroEv 38)) := Below.allocN (Below.allocN (Below.allocN (Below.refl _ _) _) _) _
    have HBel := hide hBel
    clear hz hBel
    clear h
    have c6x : ∀ (x y z : Obj), (((w.alloc x).alloc y).alloc z).cell? ⟨b, o + 6, none⟩ = some (.int .i64 s.wait) := fun x y z => by
      rw [World.cell?_alloc_lt _ _ _ (by simp; omega), World.cell?_alloc_lt _ _ _ (by simp; omega), World.cell?_alloc_lt _ _ _ hlt]
      exact c6
    clear c6
    have d2 : ((n : Int) == 2) = false := by simp; omega
    by_cases n1 : n = 1
    · have d1 : ((n : Int) == 1) = true := by simp [n1]
      have HE : Hid (actReceiving (.none n) c s = (beginWait c (putShort 6 s), none)) := by simp [Hid, actReceiving, n1]
      clear n1
      go_enter Tryz.func59, Tryz.ntmps59
      go_wp2_with fail
      refine (putShort_any F b o s 6 _ HR.out.1 (by omega)).mono ?_
      rintro e w3 ⟨rfl, h3, b3⟩
      have C3 := hide (HR.out.2.2.1.bes b3 hne1)
      have H3 := hide h3
      have hlt3 := h3.lt
      obtain ⟨k0, k1, k2, k3, k4, k5, k6, k7, k8, k9⟩ := C3.out.all
      clear h3
      go_wp2_with fail
      refine (beginWait_any F b o _ c _ H3.out).mono ?_
      rintro e w4 ⟨rfl, h4, b4⟩
      have b5 := b3.trans b4
      clear k0 k1 k2 k3 k4 k5 k6 k7 k8 k9 b3 b4
      have HV4 := hide (Ev0.bes HR.out.2.2.2.1 b5 hne2)
      have HB4 := hide (HR.out.2.1.trans b5)
      obtain ⟨⟨x0, x1, x2, x3, x4, x5⟩, q0, q1, q2, q3, q4, q5⟩ := HV4.out.all
      have H4 := hide h4
      clear h4 b5
      go_wp2
      (try simp only [Exit.inBlock, Exit.then])
      refine bodyPost_ret (results_ev rfl _ _ (w.heap.size + 1 + 1) rfl (EvAt.all HV4.out)) rfl ?_
      rw [HE.out]
      exact ⟨rfl, ev_end H4.out HB4.out (fun _ => Or.inl) (own_ne hF (by omega)) (by omega) hlt HN.out _ _ _ _ _ _⟩
    · have d1 : ((n : Int) == 1) = false := by simp; omega
      by_cases n4 : n = 4
      · have d4 : ((n : Int) == 4) = true := by simp [n4]
        have HE : Hid (actReceiving (.none n) c s = (beginWait c (putYes s), none)) := by simp [Hid, actReceiving, n4]
        clear n1 n4
        go_enter Tryz.func59, Tryz.ntmps59
        go_wp2_with fail
        refine (putYes_any F b o s _ HR.out.1 HY.out).mono ?_
        rintro e w3 ⟨rfl, h3, b3⟩
        have C3 := hide (HR.out.2.2.1.bes b3 hne1)
        have H3 := hide h3
        have hlt3 := h3.lt
        obtain ⟨k0, k1, k2, k3, k4, k5, k6, k7, k8, k9⟩ := C3.out.all
        clear h3
        go_wp2_with fail
        refine (beginWait_any F b o _ c _ H3.out).mono ?_
        rintro e w4 ⟨rfl, h4, b4⟩
        have b5 := b3.trans b4
        clear k0 k1 k2 k3 k4 k5 k6 k7 k8 k9 b3 b4
        have HV4 := hide (Ev0.bes HR.out.2.2.2.1 b5 hne2)
        have HB4 := hide (HR.out.2.1.trans b5)
        obtain ⟨⟨x0, x1, x2, x3, x4, x5⟩, q0, q1, q2, q3, q4, q5⟩ := HV4.out.all
        have H4 := hide h4
        clear h4 b5
        go_wp2
        (try simp only [Exit.inBlock, Exit.then])
        refine bodyPost_ret (results_ev rfl _ _ (w.heap.size + 1 + 1) rfl (EvAt.all HV4.out)) rfl ?_
        rw [HE.out]
        exact ⟨rfl, ev_end H4.out HB4.out (fun _ => Or.inl) (own_ne hF (by omega)) (by omega) hlt HN.out _ _ _ _ _ _⟩
      · have d4 : ((n : Int) == 4) = false := by simp; omega
        by_cases n3 : n = 3
        · have d3 : ((n : Int) == 3) = true := by simp [n3]
          have HE : Hid (actReceiving (.none n) c s = (answer c s, none)) := by simp [Hid, actReceiving, n3]
          clear n1 n4 n3
          go_enter Tryz.func59, Tryz.ntmps59
          go_wp2_with fail
          refine (answer_any F b o s c _ HR.out.1).mono ?_
          rintro e w4 ⟨rfl, h4, b4⟩
          have HV4 := hide (Ev0.bes HR.out.2.2.2.1 b4 hne2)
          have HB4 := hide (HR.out.2.1.trans b4)
          obtain ⟨⟨x0, x1, x2, x3, x4, x5⟩, q0, q1, q2, q3, q4, q5⟩ := HV4.out.all
          have H4 := hide h4
          clear h4 b4
          go_wp2
          (try simp only [Exit.inBlock, Exit.then])
          refine bodyPost_ret (results_ev rfl _ _ (w.heap.size + 1 + 1) rfl (EvAt.all HV4.out)) rfl ?_
          rw [HE.out]
          exact ⟨rfl, ev_end H4.out HB4.out (fun _ => Or.inl) (own_ne hF (by omega)) (by omega) hlt HN.out _ _ _ _ _ _⟩
        · have d3 : ((n : Int) == 3) = false := by simp; omega
          by_cases n5 : n = 5
          · have d5 : ((n : Int) == 5) = true := by simp [n5]
            have HE : Hid (actReceiving (.none n) c s = (becomeIdle s, none)) := by simp [Hid, actReceiving, n5]
            clear n1 n4 n3 n5
            go_enter Tryz.func59, Tryz.ntmps59
            go_wp2_with fail
            refine (becomeIdle_any F b o s _ HR.out.1).mono ?_
            rintro e w4 ⟨rfl, h4, b4⟩
            have HV4 := hide (Ev0.bes HR.out.2.2.2.1 b4 hne2)
            have HB4 := hide (HR.out.2.1.trans b4)
            obtain ⟨⟨x0, x1, x2, x3, x4, x5⟩, q0, q1, q2, q3, q4, q5⟩ := HV4.out.all
            have H4 := hide h4
            clear h4 b4
            go_wp2
            (try simp only [Exit.inBlock, Exit.then])
            refine bodyPost_ret (results_ev rfl _ _ (w.heap.size + 1 + 1) rfl (EvAt.all HV4.out)) rfl ?_
            rw [HE.out]
            exact ⟨rfl, ev_end H4.out HB4.out (fun _ => Or.inl) (own_ne hF (by omega)) (by omega) hlt HN.out _ _ _ _ _ _⟩
          · have d5 : ((n : Int) == 5) = false := by simp; omega
            by_cases hw : s.wait = 0
            · have dw : ((s.wait : Int) == 0) = true := by simp [hw]
              have HE : Hid (actReceiving (.none n) c s = (becomeIdle s, none)) := by simp [Hid, actReceiving, n1, n4, n3, hw]
              clear n1 n4 n3 n5 hw
              go_enter Tryz.func59, Tryz.ntmps59
              go_wp2_with fail
              refine (becomeIdle_any F b o s _ HR.out.1).mono ?_
              rintro e w4 ⟨rfl, h4, b4⟩
              have HV4 := hide (Ev0.bes HR.out.2.2.2.1 b4 hne2)
              have HB4 := hide (HR.out.2.1.trans b4)
              obtain ⟨⟨x0, x1, x2, x3, x4, x5⟩, q0, q1, q2, q3, q4, q5⟩ := HV4.out.all
              have H4 := hide h4
              clear h4 b4
              go_wp2
              (try simp only [Exit.inBlock, Exit.then])
              refine bodyPost_ret (results_ev rfl _ _ (w.heap.size + 1 + 1) rfl (EvAt.all HV4.out)) rfl ?_
              rw [HE.out]
              exact ⟨rfl, ev_end H4.out HB4.out (fun _ => Or.inl) (own_ne hF (by omega)) (by omega) hlt HN.out _ _ _ _ _ _⟩
            · have dw : ((s.wait : Int) == 0) = false := by simp; omega
              have HE : Hid (actReceiving (.none n) c s = (s, none)) := by simp [Hid, actReceiving, n1, n4, n3, n5, hw]
              clear n1 n4 n3 n5 hw
              go_enter Tryz.func59, Tryz.ntmps59
              go_wp2
              (try simp only [Exit.inBlock, Exit.then])
              refine bodyPost_ret (results_ev rfl _ _ (w.heap.size + 1 + 1) rfl HR.out.2.2.2.1) rfl ?_
              rw [HE.out]
              exact ⟨rfl, HR.out.1.mono (fun _ => Or.inl) (fun x => x.elim HN.out (fun y => by omega)), HR.out.2.1⟩

end Go.Proofs.YtlbpjcphhocdkabGreatDoor

namespace Go.Proofs.YtlbpjcphhocdkabGreatDoor
open Go.RowKit Go.Proofs.YtlbpjcphhocdkabGreatDoor.Mod Go.Proofs.YtlbpjcphhocdkabGreatDoor.Pst

theorem list_at {P : Program} {ops : Array Oper} {Q : Exit → Act → World → Prop} {rest : List Oper} {a : Act} {W : World} (R : World → Prop) (h : R W) (k : ∀ W', R W' → wpList P ops Q rest a W') : wpList P ops Q rest a W := k W h

theorem PSOk.less {c : Cfg} {s : PS} (h : PSOk c s) : PSOk c (less s) :=
  ⟨h.qlen, h.qj, h.jm, h.fit, h.ne, h.tr, h.blk, h.rcv, by have := h.wr; exact ⟨by show s.wait - 1 ≤ 1000; omega, by show s.rest - 1 ≤ 1000; omega⟩⟩
theorem HrdV.form {w : World} {b : Nat} {x : Value} {A : Ans} (h : HrdV w b x A) : ∃ (hb : ByteArray) (a : Option Addr) (n cap : Nat) (cl la : Bool), x = .agg #[.int .i64 (kindOf A : Nat), .string hb, .slice a n cap, .bool cl, .bool la] := by
  cases A with
  | data h1 ps1 c1 t1 =>
    obtain ⟨a, cap, lb, e1, _⟩ := h
    exact ⟨_, a, _, cap, c1, t1, e1⟩
  | none n => exact ⟨_, none, 0, 0, false, false, h.1⟩

set_option maxHeartbeats 1000000 in
set_option maxRecDepth 1000000 in
theorem act_any (F : Nat → Prop) (b o : Nat) (s : PS) (A : Ans) (x : Value) (c : Cfg) (w : World) (h : StAt w F b o s) (hF : ∀ x, F x → x < w.heap.size) (hx : HrdV w b x A) (hc : c.Ok) (hp : PSOk c s) :
    Calls Tryz.prog 44 #[.pointer (some ⟨b, o, none⟩), x, cfgV c] w fun e w' => Tells w F b o (act A c s) e w' := by
  have hlt := h.lt
  have hne : b ≠ w.heap.size := by omega
  have hne1 : b ≠ w.heap.size + 1 := by omega
  have hne2 : b ≠ w.heap.size + 1 + 1 := by omega
  have HN := hide h.nb
  have hw1 := hp.wr.1
  have hw2 := hp.wr.2
  obtain ⟨hb, a, n, cap, cl, la, hxe⟩ := hx.form
  have HR : Hid (StAt (((w.alloc (.cells #[.int .i64 (kindOf A : Nat), .string hb, .slice a n cap, .bool cl, .bool la] 91)).alloc (.cells (cfgCells c) 23)).alloc (.cells zeroEv 38)) F b o s ∧ Bes b o w (((w.alloc (.cells #[.int .i64 (kindOf A : Nat), .string hb, .slice a n cap, .bool cl, .bool la] 91)).alloc (.cells (cfgCells c) 23)).alloc (.cells zeroEv 38)) ∧ CfgAt (((w.alloc (.cells #[.int .i64 (kindOf A : Nat), .string hb, .slice a n cap, .bool cl, .bool la] 91)).alloc (.cells (cfgCells c) 23)).alloc (.cells zeroEv 38)) (w.heap.size + 1) c ∧ Ev0 (((w.alloc (.cells #[.int .i64 (kindOf A : Nat), .string hb, .slice a n cap, .bool cl, .bool la] 91)).alloc (.cells (cfgCells c) 23)).alloc (.cells zeroEv 38)) (w.heap.size + 1 + 1) ∧ HrdAt (((w.alloc (.cells #[.int .i64 (kindOf A : Nat), .string hb, .slice a n cap, .bool cl, .bool la] 91)).alloc (.cells (cfgCells c) 23)).alloc (.cells zeroEv 38)) w.heap.size (.int .i64 (kindOf A : Nat)) (.string hb) (.slice a n cap) (.bool cl) (.bool la) ∧ HrdV (((w.alloc (.cells #[.int .i64 (kindOf A : Nat), .string hb, .slice a n cap, .bool cl, .bool la] 91)).alloc (.cells (cfgCells c) 23)).alloc (.cells zeroEv 38)) b x A) :=
    ⟨((h.alloc _).alloc _).alloc _, (((Bes.refl b o w).alloc hlt _).alloc (by simp; omega) _).alloc (by simp; omega) _, (CfgAt.at (by simp) c).alloc _, EvAt.new (by simp) _ _ _ _ _ _, ((HrdAt.at rfl _ _ _ _ _).alloc _).alloc _, hx.below (Below.allocN (Below.allocN (Below.allocN (Below.refl _ _) _) _) _)⟩
  subst hxe
  have HP := hide hp.less
  have HCK := hide hc
  have HM : Hid ((less s).mode = s.mode) := rfl
  clear h hx hc hp
  unfold cfgV
  go_enter Tryz.func44, Tryz.ntmps44
  go_step
  go_step
  go_step
  go_step
  go_step
  go_step
  go_step
  go_step
  go_step
  go_step
  go_step
  go_step
  refine list_at (fun W => StAt W F b o s ∧ Bes b o w W ∧ CfgAt W (w.heap.size + 1) c ∧ Ev0 W (w.heap.size + 1 + 1) ∧ HrdAt W w.heap.size (.int .i64 (kindOf A : Nat)) (.string hb) (.slice a n cap) (.bool cl) (.bool la) ∧ HrdV W b (.agg #[.int .i64 (kindOf A : Nat), .string hb, .slice a n cap, .bool cl, .bool la]) A) HR.out ?_
  rintro W ⟨h0, b0, C0, v0, X0, A0⟩
  have c5 := h0.mode
  have c6 := h0.wait
  have c7 := h0.rest
  have f6 := h0.fz (o + 6)
  have f7 := h0.fz (o + 7)
  obtain ⟨k0, k1, k2, k3, k4, k5, k6, k7, k8, k9⟩ := C0.all
  obtain ⟨y0, y1, y2, y3, y4⟩ := X0.cell
  have V0 := hide v0
  have B0 := hide b0
  have HL := hide ((h0.wait' (s.wait - 1)).rest' (s.rest - 1))
  have HBB := hide (((Bes.refl b o W).set 6 (by omega) (.int .i64 (s.wait - 1 : Nat))).set 7 (by omega) (.int .i64 (s.rest - 1 : Nat)))
  have HA0 := hide (A0.bes HBB.out)
  have HZ : Hid (w.heap.size + 1 + 1 < ((W.setCell ⟨b, o + 6, none⟩ (.int .i64 (s.wait - 1 : Nat))).setCell ⟨b, o + 7, none⟩ (.int .i64 (s.rest - 1 : Nat))).heap.size) := by have := EvAt.lt v0; simpa [Hid] using this
  have HFF : Hid (∀ x, F x → x < ((W.setCell ⟨b, o + 6, none⟩ (.int .i64 (s.wait - 1 : Nat))).setCell ⟨b, o + 7, none⟩ (.int .i64 (s.rest - 1 : Nat))).heap.size) := fun x hx => by have := hF x hx; have := b0.size; simp; omega
  clear h0 b0 C0 v0 X0 A0 HR
  by_cases m1 : s.mode = 1
  · rw [m1] at c5
    have HE : Hid (act A c s = actBidding (kindOf A) c (less s)) := by simp [Hid, act, m1]
    go_wp2_with fail
    refine (oneLess_any s.wait _ (by omega)).mono ?_
    rintro e wz ⟨rfl, hwz⟩
    obtain rfl := hwz.symm
    go_wp2_with fail
    refine (oneLess_any s.rest _ (by omega)).mono ?_
    rintro e wz ⟨rfl, hwz⟩
    obtain rfl := hwz.symm
    go_wp2_with fail
    refine (actBidding_any F b o (less s) (kindOf A) c _ HL.out HFF.out HCK.out HP.out (HM.out.trans m1)).mono ?_
    rintro e w4 ⟨rfl, h4, b4⟩
    have HV4 := hide (Ev0.bes (Ev0.bes V0.out HBB.out hne2) b4 hne2)
    have HB4 := hide ((B0.out.trans HBB.out).trans b4)
    obtain ⟨⟨x0, x1, x2, x3, x4, x5⟩, q0, q1, q2, q3, q4, q5⟩ := HV4.out.all
    have H4 := hide h4
    obtain ⟨ek, est, en, eh, et, ec, hev⟩ := evV_form (actBidding (kindOf A) c (less s)).2
    have HEV := hide hev
    rw [hev]
    clear h4 b4 hev c5 c6 c7 f6 f7 k0 k1 k2 k3 k4 k5 k6 k7 k8 k9 y0 y1 y2 y3 y4
    go_wp2
    (try simp only [Exit.inBlock, Exit.then])
    refine bodyPost_ret (results_ev rfl _ _ (w.heap.size + 1 + 1) rfl (EvAt.all HV4.out)) rfl ?_
    rw [HE.out]
    exact ⟨by rw [HEV.out], ev_end H4.out HB4.out (Plus.sub (B0.out.trans HBB.out).size) (plus_ne hF (by omega) HZ.out) (by omega) hlt HN.out _ _ _ _ _ _⟩
  · have m1' : ((s.mode : Int) == 1) = false := by simp; omega
    by_cases m2 : s.mode = 2
    · rw [m2] at c5
      have HE : Hid (act A c s = actSending (kindOf A) c (less s)) := by simp [Hid, act, m2]
      go_wp2_with fail
      refine (oneLess_any s.wait _ (by omega)).mono ?_
      rintro e wz ⟨rfl, hwz⟩
      obtain rfl := hwz.symm
      go_wp2_with fail
      refine (oneLess_any s.rest _ (by omega)).mono ?_
      rintro e wz ⟨rfl, hwz⟩
      obtain rfl := hwz.symm
      go_wp2_with fail
      refine (actSending_any F b o (less s) (kindOf A) c _ HL.out HFF.out HCK.out HP.out (HM.out.trans m2)).mono ?_
      rintro e w4 ⟨rfl, h4, b4⟩
      have HV4 := hide (Ev0.bes (Ev0.bes V0.out HBB.out hne2) b4 hne2)
      have HB4 := hide ((B0.out.trans HBB.out).trans b4)
      obtain ⟨⟨x0, x1, x2, x3, x4, x5⟩, q0, q1, q2, q3, q4, q5⟩ := HV4.out.all
      have H4 := hide h4
      obtain ⟨ek, est, en, eh, et, ec, hev⟩ := evV_form (actSending (kindOf A) c (less s)).2
      have HEV := hide hev
      rw [hev]
      clear h4 b4 hev c5 c6 c7 f6 f7 k0 k1 k2 k3 k4 k5 k6 k7 k8 k9 y0 y1 y2 y3 y4
      go_wp2
      (try simp only [Exit.inBlock, Exit.then])
      refine bodyPost_ret (results_ev rfl _ _ (w.heap.size + 1 + 1) rfl (EvAt.all HV4.out)) rfl ?_
      rw [HE.out]
      exact ⟨by rw [HEV.out], ev_end H4.out HB4.out (Plus.sub (B0.out.trans HBB.out).size) (plus_ne hF (by omega) HZ.out) (by omega) hlt HN.out _ _ _ _ _ _⟩
    · have m2' : ((s.mode : Int) == 2) = false := by simp; omega
      by_cases m3 : s.mode = 3
      · rw [m3] at c5
        have HE : Hid (act A c s = actReceiving A c (less s)) := by simp [Hid, act, m3]
        go_wp2_with fail
        refine (oneLess_any s.wait _ (by omega)).mono ?_
        rintro e wz ⟨rfl, hwz⟩
        obtain rfl := hwz.symm
        go_wp2_with fail
        refine (oneLess_any s.rest _ (by omega)).mono ?_
        rintro e wz ⟨rfl, hwz⟩
        obtain rfl := hwz.symm
        go_wp2_with fail
        refine (actReceiving_any F b o (less s) A _ c _ HL.out HFF.out HA0.out HP.out (HM.out.trans m3)).mono ?_
        rintro e w4 ⟨rfl, h4, b4⟩
        have HV4 := hide (Ev0.bes (Ev0.bes V0.out HBB.out hne2) b4 hne2)
        have HB4 := hide ((B0.out.trans HBB.out).trans b4)
        obtain ⟨⟨x0, x1, x2, x3, x4, x5⟩, q0, q1, q2, q3, q4, q5⟩ := HV4.out.all
        have H4 := hide h4
        obtain ⟨ek, est, en, eh, et, ec, hev⟩ := evV_form (actReceiving A c (less s)).2
        have HEV := hide hev
        rw [hev]
        clear h4 b4 hev c5 c6 c7 f6 f7 k0 k1 k2 k3 k4 k5 k6 k7 k8 k9 y0 y1 y2 y3 y4
        go_wp2
        (try simp only [Exit.inBlock, Exit.then])
        refine bodyPost_ret (results_ev rfl _ _ (w.heap.size + 1 + 1) rfl (EvAt.all HV4.out)) rfl ?_
        rw [HE.out]
        exact ⟨by rw [HEV.out], ev_end H4.out HB4.out (Plus.sub (B0.out.trans HBB.out).size) (plus_ne hF (by omega) HZ.out) (by omega) hlt HN.out _ _ _ _ _ _⟩
      · have m3' : ((s.mode : Int) == 3) = false := by simp; omega
        have HE : Hid (act A c s = (actIdle (kindOf A) c (less s), none)) := by simp [Hid, act, m1, m2, m3]
        clear m1 m2 m3
        go_wp2_with fail
        refine (oneLess_any s.wait _ (by omega)).mono ?_
        rintro e wz ⟨rfl, hwz⟩
        obtain rfl := hwz.symm
        go_wp2_with fail
        refine (oneLess_any s.rest _ (by omega)).mono ?_
        rintro e wz ⟨rfl, hwz⟩
        obtain rfl := hwz.symm
        go_wp2_with fail
        refine (actIdle_any F b o (less s) (kindOf A) c _ HL.out HP.out.qlen).mono ?_
        rintro e w4 ⟨rfl, h4, b4⟩
        have HV4 := hide (Ev0.bes (Ev0.bes V0.out HBB.out hne2) b4 hne2)
        have HB4 := hide ((B0.out.trans HBB.out).trans b4)
        obtain ⟨⟨x0, x1, x2, x3, x4, x5⟩, q0, q1, q2, q3, q4, q5⟩ := HV4.out.all
        have H4 := hide h4
        clear h4 b4 c5 c6 c7 f6 f7 k0 k1 k2 k3 k4 k5 k6 k7 k8 k9 y0 y1 y2 y3 y4
        go_wp2
        (try simp only [Exit.inBlock, Exit.then])
        refine bodyPost_ret (results_ev rfl _ _ (w.heap.size + 1 + 1) rfl (EvAt.all HV4.out)) rfl ?_
        rw [HE.out]
        exact ⟨rfl, ev_end H4.out HB4.out (fun _ => Or.inl) (own_ne hF (by omega)) (by omega) hlt HN.out _ _ _ _ _ _⟩

end Go.Proofs.YtlbpjcphhocdkabGreatDoor

namespace Go.Proofs.YtlbpjcphhocdkabGreatDoor
open Go.RowKit Go.Proofs.YtlbpjcphhocdkabGreatDoor.Mod Go.Proofs.YtlbpjcphhocdkabGreatDoor.Pst

/-- What is heard, in fresh memory. -/
def HeardPost (c : Cfg) (own other : List UInt8) (w : World) (e : Ending) (w' : World) : Prop :=
  ∃ x, e = .returned x ∧ (∀ b, b < w.heap.size → HrdV w' b x (if own ≠ [] then .none 0 else hear c other)) ∧ Below w.heap.size w w'

theorem hear_none (c : Cfg) : hear c [] = .none 0 := by
  refine hear_is (Or.inr ⟨rfl, Or.inr ⟨rfl, fun m h1 h2 e => ?_⟩⟩)
  have := congrArg List.length e
  simp [Prs.restL] at this
theorem ans_hrd {w : World} {B : Nat} {x : Value} {A : Ans} {k : Int} {l : List UInt8} (h : AnsAt w B x A) (hr : ReadsAs k l A) : ∀ b, b < B → HrdV w b x A := by
  intro b hb
  cases A with
  | data h1 ps1 c1 t1 =>
    obtain ⟨hd, v, lb, rfl, e1, e2, own⟩ := h
    obtain ⟨a, cap, rfl, ht⟩ := own.texts
    refine ⟨a, cap, lb, ?_, ht, ?_, e2, hr.2.ok⟩
    · have : hd = ⟨h1.toArray⟩ := by rw [← e1]
      rw [this]
    · intro g of e _
      have := (World.ownsRow.lt own g (by rw [e]; rfl)).1
      omega
  | none n =>
    refine ⟨h, ?_⟩
    rcases hr with ⟨_, rfl, _⟩ | ⟨_, ⟨h1, _⟩ | ⟨rfl, _⟩⟩ <;> omega
theorem HrdV.both {w w' : World} {b g0 : Nat} {x : Value} {A : Ans} (h : HrdV w b x A) (h2 : HrdV w g0 x A) (hk : ∀ g, g ≠ g0 → g < w.heap.size → w'.heap[g]? = w.heap[g]?) : HrdV w' b x A := by
  cases A with
  | data h1 ps1 c1 t1 =>
    obtain ⟨a, cap, lb, e1, e2, e3, e4⟩ := h
    obtain ⟨a', cap', lb', e1', _, e3', _⟩ := h2
    rw [e1] at e1'
    simp only [Value.agg.injEq, Array.mk.injEq, List.cons.injEq, Value.slice.injEq, true_and, and_true] at e1'
    obtain ⟨rfl, hl, _⟩ := e1'
    refine ⟨a, cap, lb, e1, ?_, e3, e4⟩
    rcases e2 with e2 | ⟨g, of, e, e2⟩
    · exact Or.inl e2
    · by_cases hlb : lb = []
      · exact Or.inl hlb
      · refine Or.inr ⟨g, of, e, fun i hi => ?_⟩
        have hc := e2 i hi
        rw [← hc]
        refine World.cell?_of_block (hk g (e3' g of e ?_) (World.block_lt_of_cell? w _ hc))
        intro h0
        rw [h0] at hl
        exact hlb (List.eq_nil_of_length_eq_zero hl)
  | none n => exact h
theorem hrd_agg {n : Value} {w : World} {g : Nat} {h v c t : Value} (x : HrdAt w g n h v c t) : w.heap[g]? = some (.cells #[n, h, v, c, t] 91 (0, 0)) := x

set_option maxHeartbeats 1000000 in
set_option maxRecDepth 1000000 in
theorem heard_any (c : Cfg) (hc : c.Ok) (own other : ByteArray) (w : World) (hs : other.size ≤ 140737488352000) :
    Calls Tryz.prog 43 #[.string own, .string other, .int .i64 c.check] w fun e w' => HeardPost c own.data.toList other.data.toList w e w' := by
  have HCK : Hid ((c.check : Int) = 0 ∨ (c.check : Int) = 1) := by have := hc.check; unfold Hid; omega
  clear hc
  go_enter Tryz.func43, Tryz.ntmps43
  go_step
  go_step
  go_step
  go_step
  go_step
  go_step
  refine list_at (fun W => Below w.heap.size w W ∧ HrdAt W w.heap.size (.int .i64 0) (.string ⟨#[]⟩) (.slice none 0 0) (.bool false) (.bool false)) ⟨(Below.refl _ _).alloc (Nat.le_refl _) _, HrdAt.at rfl _ _ _ _ _⟩ ?_
  rintro W ⟨hb, X0⟩
  obtain ⟨y0, y1, y2, y3, y4⟩ := X0.cell
  have f0 := X0.free 0
  have f1 := X0.free 1
  have f2 := X0.free 2
  have f3 := X0.free 3
  have f4 := X0.free 4
  have HX := hide X0
  have HB := hide hb
  have hlt := lt_of_block X0
  clear hb X0
  by_cases ho : own.data.toList = []
  · have e1 : own.toList = [] := by rw [ByteArray.toList_eq]; exact ho
    have HI : Hid ((if own.data.toList ≠ [] then (.none 0 : Ans) else hear c other.data.toList) = hear c other.data.toList) := by simp [Hid, ho]
    clear ho
    by_cases ht : other.data.toList = []
    · have e2 : other.toList = [] := by rw [ByteArray.toList_eq]; exact ht
      have HH : Hid (hear c other.data.toList = .none 0) := by rw [Hid, ht, hear_none]
      clear ht
      go_wp2
      (try simp only [Exit.inBlock, Exit.then])
      refine bodyPost_ret (results_hrd rfl _ _ w.heap.size rfl (HrdAt.all HX.out)) rfl ?_
      refine ⟨_, rfl, fun b hb => ?_, below_five HB.out (Nat.le_refl _) _ _ _ _ _⟩
      rw [HI.out, HH.out]
      exact ⟨rfl, by omega⟩
    · have e2 : other.toList.isEmpty = false := by rw [ByteArray.toList_eq]; cases hl : other.data.toList with | nil => exact absurd hl ht | cons _ _ => rfl
      clear ht
      go_wp2_with fail
      refine (read_any other c.check W hs HCK.out).mono ?_
      rintro e w2 ⟨A, x, rfl, hr, hA, hb2⟩
      have HA : Hid (hear c other.data.toList = A) := hear_is hr
      have HV := hide (ans_hrd hA hr)
      obtain ⟨hd, a, n, cap, cl, la, hxe⟩ := (HV.out 0 (by omega)).form
      subst hxe
      have X2 := HX.out.below hb2 hlt
      have XX : ∀ x, HrdAt (w2.alloc x) w.heap.size (.int .i64 0) (.string ⟨#[]⟩) (.slice none 0 0) (.bool false) (.bool false) := fun x => X2.alloc x
      have z0 : ∀ x, (w2.alloc x).cell? ⟨w.heap.size, 0, none⟩ = some (.int .i64 0) := fun x => (XX x).cell.1
      have z1 : ∀ x, (w2.alloc x).cell? ⟨w.heap.size, 1, none⟩ = some (.string ⟨#[]⟩) := fun x => (XX x).cell.2.1
      have z2 : ∀ x, (w2.alloc x).cell? ⟨w.heap.size, 2, none⟩ = some (.slice none 0 0) := fun x => (XX x).cell.2.2.1
      have z3 : ∀ x, (w2.alloc x).cell? ⟨w.heap.size, 3, none⟩ = some (.bool false) := fun x => (XX x).cell.2.2.2.1
      have z4 : ∀ x, (w2.alloc x).cell? ⟨w.heap.size, 4, none⟩ = some (.bool false) := fun x => (XX x).cell.2.2.2.2
      have g0 : ∀ x, (w2.alloc x).frozen? ⟨w.heap.size, 0, none⟩ = false := fun x => (XX x).free 0
      have g1 : ∀ x, (w2.alloc x).frozen? ⟨w.heap.size, 1, none⟩ = false := fun x => (XX x).free 1
      have g2 : ∀ x, (w2.alloc x).frozen? ⟨w.heap.size, 2, none⟩ = false := fun x => (XX x).free 2
      have g3 : ∀ x, (w2.alloc x).frozen? ⟨w.heap.size, 3, none⟩ = false := fun x => (XX x).free 3
      have g4 : ∀ x, (w2.alloc x).frozen? ⟨w.heap.size, 4, none⟩ = false := fun x => (XX x).free 4
      clear XX
      have HX2 := hide X2
      have HB2 := hide (below_step HB.out hb2)
      have hne : w.heap.size ≠ w2.heap.size := by have := hb2.size; omega
      clear hr hA X2 y0 y1 y2 y3 y4 f0 f1 f2 f3 f4 hb2
      generalize (kindOf A) = K at *
      go_wp2
      (try simp only [Exit.inBlock, Exit.then])
      refine bodyPost_ret (results_hrd rfl _ _ w.heap.size rfl (HrdAt.all (HX2.out.alloc _))) rfl ?_
      refine ⟨_, rfl, fun b hb => ?_, below_five (Below.allocN HB2.out _) (Nat.le_refl _) _ _ _ _ _⟩
      rw [HI.out, HA.out]
      refine HrdV.both (HV.out b (by omega)) (HV.out w.heap.size hlt) fun g hg hl => ?_
      rw [five_keep _ _ _ _ _ _ _ _ hg]
      exact Below.heap_alloc _ _ _ hl
  · have e1 : own.toList.isEmpty = false := by rw [ByteArray.toList_eq]; cases hl : own.data.toList with | nil => exact absurd hl ho | cons _ _ => rfl
    have e1' : ¬ own.toList = [] := by rw [ByteArray.toList_eq]; exact ho
    have HI : Hid ((if own.data.toList ≠ [] then (.none 0 : Ans) else hear c other.data.toList) = .none 0) := by simp [Hid, ho]
    clear ho
    go_wp2
    (try simp only [Exit.inBlock, Exit.then])
    refine bodyPost_ret (results_hrd rfl _ _ w.heap.size rfl (HrdAt.all HX.out)) rfl ?_
    refine ⟨_, rfl, fun b hb => ?_, below_five HB.out (Nat.le_refl _) _ _ _ _ _⟩
    rw [HI.out]
    exact ⟨rfl, by omega⟩

end Go.Proofs.YtlbpjcphhocdkabGreatDoor

namespace Go.Proofs.YtlbpjcphhocdkabGreatDoor
open Go.RowKit Go.Proofs.YtlbpjcphhocdkabGreatDoor.Mod Go.Proofs.YtlbpjcphhocdkabGreatDoor.Pst

/-- A region, by what it leaves. -/
theorem region_via {P : Program} {id : Nat} {ops : Array Oper} {b : Bool} {Q : Exit → Act → World → Prop} {a : Act} {w : World} (R : Act → World → Prop) (h : (Code.region id ops b).wp P (fun e a' w' => e = .normal ∧ R a' w') a w) (k : ∀ a' w', R a' w' → Q .normal a' w') : (Code.region id ops b).wp P Q a w :=
  Code.wp_mono (fun e a' w' ⟨he, hr⟩ => by subst he; exact k a' w' hr) h

/-- An event's cells. -/
def evCells : Option Ev → List Value
  | none => []
  | some e => [.int .i64 e.kind, .int .i64 e.station, .int .i64 e.number, .string ⟨e.msg.head.toArray⟩, .string ⟨e.msg.text.toArray⟩, .bool e.msg.clear]
def ecells (l : List Ev) : List Value := (l.map fun e => evCells (some e)).flatten
/-- A list of events among the blocks from B on. -/
def OwnE (w : World) (B : Nat) (v : Value) (l : List Ev) : Prop := w.ownsRow B 38 6 v l.length (ecells l)
theorem OwnE.alloc {w : World} {B : Nat} {v : Value} {l : List Ev} (h : OwnE w B v l) (o : Obj) : OwnE (w.alloc o) B v l := World.ownsRow.alloc h o
theorem OwnE.keep {w w' : World} {B : Nat} {v : Value} {l : List Ev} (h : OwnE w B v l) (hb : ∀ g, B ≤ g → g < w.heap.size → w'.heap[g]? = w.heap[g]?) : OwnE w' B v l := by
  obtain ⟨h1, h2⟩ := h
  refine ⟨h1, ?_⟩
  rcases h2 with h2 | ⟨g, cap, cur, hv, hB, hh, r⟩
  · exact Or.inl h2
  · exact Or.inr ⟨g, cap, cur, hv, hB, (hb g hB (lt_of_block hh)).trans hh, r⟩
theorem Tryz.infoEv : (Tryz.prog.info? 38).map (fun i => (i.zero, i.size, i.bytes)) = some (some (.agg #[.int .i64 0, .int .i64 0, .int .i64 0, .string ⟨#[]⟩, .string ⟨#[]⟩, .bool false]), 6, 64) := by kernel_rfl

section
variable {ops : Array Oper} {rest : List Oper} {o : Oper} {a : Act} {Q : Exit → Act → World → Prop}
theorem app_ev (W : World) (m : Ev) (hgd : o.guard = none) (sl x : Operand)
    (ho : o.op = .call { callee := .builtin .append, args := #[sl, x], argTypes := #[27, 27] })
    (B : Nat) (v : Value) (l : List Ev) (g cp : Nat) (hs : a.eval sl = v) (hx : a.eval x = .slice (some ⟨g, 0, none⟩) 1 cp) (hg0 : g = W.heap.size) (hown : OwnE W B v l)
    (hlen : l.length ≤ 1000000) (w0 : World) (hbel : Below B w0 W) (hB : B ≤ W.heap.size)
    (h : ∀ v' W', OwnE W' B v' (l ++ [m]) → Below B w0 W' → B ≤ W'.heap.size → wpList Tryz.prog ops Q rest (a.put o.dst v') W') :
    wpList Tryz.prog ops Q (o :: rest) a (W.alloc (.cells #[.int .i64 m.kind, .int .i64 m.station, .int .i64 m.number, .string ⟨m.msg.head.toArray⟩, .string ⟨m.msg.text.toArray⟩, .bool m.msg.clear] 38)) := by
  obtain ⟨i0, hi, hz0, hz1, hz2⟩ := info_parts Tryz.infoEv
  subst hg0
  refine wpList_append_own _ hgd sl x 27 ho B 38 i0 _ 6 64 Tryz.underlying27 hi hz0 hz1 hz2 rfl (by decide) v l.length (ecells l) hs (World.ownsRow.alloc hown _) ⟨W.heap.size, 0, none⟩ 1 cp (evCells (some m)) hx rfl
    (cells_new _ _ _) (by intro u hu; simp [evCells] at hu; rcases hu with rfl | rfl | rfl | rfl | rfl | rfl <;> rfl) (by unfold maxLen; omega) (by omega) (by simp; omega) ?_
  intro v' W' ho' hg _
  have hlt : ∀ k, v.ownBlock = some k → B ≤ k := fun k hk => (World.ownsRow.lt hown k hk).1
  refine h v' W' ?_ ((hbel.alloc hB _).grown hg (by simp; omega) hlt) (by have := hg.size; simp at this; omega)
  unfold OwnE
  rw [show ecells (l ++ [m]) = ecells l ++ evCells (some m) by simp [ecells], List.length_append]
  exact ho'
end

end Go.Proofs.YtlbpjcphhocdkabGreatDoor

namespace Go.Proofs.YtlbpjcphhocdkabGreatDoor
open Go.RowKit

theorem run_append_foot {P : Program} (w : World) (base : Nat) (t ty e : TypeId) (i : TypeInfo) (z : Value) (size bytes : Nat) (ht : P.underlying t = some (.slice e)) (hi : P.info? e = some i) (hz : i.zero = some z)
    (hsize : i.size = size) (hby : i.bytes = bytes) (hzs : z.cells.size = size) (hsz : 0 < size)
    (v : Value) (n : Nat) (xs : List Value) (hown : w.ownsRow base e size v n xs)
    (a : Addr) (m c : Nat) (news : List Value) (hl : news.length = m * size) (hnews : ∀ j u, news[j]? = some u → w.cell? (a.add j) = some u) (h1 : ∀ u ∈ news, u.oneCell' = true)
    (h63 : n + m ≤ maxLen) (hbytes : (n + m) * bytes ≤ 140737488355328) (hbase : base ≤ w.heap.size) :
    ∃ v' w', (Builtin.append_ #[t, t] ty #[v, .slice (some a) m c]).run P w = .ok v' w' ∧ w'.ownsRow base e size v' (n + m) (xs ++ news) ∧ w.grownBy w' v.ownBlock ∧
      (∀ g, v'.ownBlock = some g → v.ownBlock = some g ∨ w.heap.size ≤ g) := by
  obtain ⟨v', w', hr, h2, h3, _⟩ := run_append_own (P := P) w base t ty e i z size bytes ht hi hz hsize hby hzs hsz v n xs hown a m c news hl hnews h1 h63 hbytes hbase
  refine ⟨v', w', hr, h2, h3, fun g hg => ?_⟩
  rcases hown.2 with ⟨rfl, rfl⟩ | ⟨g0, cap, cur, rfl, hbg, hgg, hnc, hcm, hcs, htake⟩
  · have hx : xs = [] := List.eq_nil_of_length_eq_zero (by simpa using hown.1)
    subst hx
    obtain ⟨v2, w2, hr2, h4, _, _⟩ := run_append_own (P := P) w w.heap.size t ty e i z size bytes ht hi hz hsize hby hzs hsz _ 0 [] (World.ownsRow_nil w w.heap.size e size) a m c news hl hnews h1 h63 hbytes (Nat.le_refl _)
    rw [hr] at hr2
    cases hr2
    exact Or.inr (World.ownsRow.lt h4 g hg).1
  · by_cases hroom : n + m ≤ cap
    · left
      subst hsize
      have hfit : n * i.size + news.length ≤ cur.size := by rw [hl, hcs, ← Nat.add_mul]; exact Nat.mul_le_mul_right _ hroom
      have hr2 := run_append_room (P := P) w t ty e i ht hi g0 n cap cur hgg a m c news hl hnews h1 hroom hfit
      rw [hr] at hr2
      cases hr2
      exact hg
    · right
      have holds : ∀ j u, xs[j]? = some u → w.cell? ((⟨g0, 0, none⟩ : Addr).add j) = some u := World.ownsRow.cells hown (g := g0) rfl
      obtain ⟨v2, w2, hr2, h4, _⟩ := run_append_arg_grows (P := P) w t ty e i z size bytes ht hi hz hsize hby hzs hsz ⟨g0, 0, none⟩ n cap xs hown.1 holds a m c news hl hnews (by omega) h63 hbytes
      rw [hr] at hr2
      cases hr2
      exact (World.ownsRow.lt h4 g hg).1

theorem wpList_append_foot {P : Program} (w : World) {ops : Array Oper} {rest : List Oper} {o : Oper} {ac : Act} {Q : Exit → Act → World → Prop} (hgd : o.guard = none) (s x : Operand) (t : TypeId)
    (ho : o.op = .call { callee := .builtin .append, args := #[s, x], argTypes := #[t, t] })
    (base : Nat) (e : TypeId) (i : TypeInfo) (z : Value) (size bytes : Nat) (ht : P.underlying t = some (.slice e)) (hi : P.info? e = some i) (hz : i.zero = some z)
    (hsize : i.size = size) (hby : i.bytes = bytes) (hzs : z.cells.size = size) (hsz : 0 < size)
    (v : Value) (n : Nat) (xs : List Value) (hs : ac.eval s = v) (hown : w.ownsRow base e size v n xs)
    (ad : Addr) (m c : Nat) (news : List Value) (hx : ac.eval x = .slice (some ad) m c) (hl : news.length = m * size) (hnews : ∀ j u, news[j]? = some u → w.cell? (ad.add j) = some u) (h1 : ∀ u ∈ news, u.oneCell' = true)
    (h63 : n + m ≤ maxLen) (hbytes : (n + m) * bytes ≤ 140737488355328) (hbase : base ≤ w.heap.size)
    (h : ∀ v' w', w'.ownsRow base e size v' (n + m) (xs ++ news) → w.grownBy w' v.ownBlock → (∀ g, v'.ownBlock = some g → v.ownBlock = some g ∨ w.heap.size ≤ g) → wpList P ops Q rest (ac.put o.dst v') w') : wpList P ops Q (o :: rest) ac w :=
  wpList_plain hgd fun _ hK => by
    obtain ⟨v', w', hr, h2, h3, h4⟩ := run_append_foot (P := P) w base t o.type e i z size bytes ht hi hz hsize hby hzs hsz v n xs hown ad m c news hl hnews h1 h63 hbytes hbase
    unfold Oper.wp execOp
    simp only [ho, resolve, invoke, builtin, Sem.run_bind, Sem.run_pure, Result.andThen_ok, List.map_toArray, List.map_cons, List.map_nil, hs, hx, hr]
    exact hK _ _ (h v' w' h2 h3 h4)

end Go.Proofs.YtlbpjcphhocdkabGreatDoor
