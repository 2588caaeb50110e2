/-How many messages are left, and within how many ticks they must be told of. What a message that joins leaves of the harness; the number's text; the library's table. -/
import Derived.Test.YtlbpjcphhocdkabGreatDoorGKd
import Derived.Test.YtlbpjcphhocdkabGreatDoorGPc
import Derived.Test.YtlbpjcphhocdkabGreatDoorGKb
import Derived.Lib.ItoaLen
namespace Go.Proofs.YtlbpjcphhocdkabGreatDoor
set_option maxRecDepth 1000000
open Go.RowKit Go.Proofs.YtlbpjcphhocdkabGreatDoor.Mod Go.Proofs.YtlbpjcphhocdkabGreatDoor.Pst Go.Proofs.YtlbpjcphhocdkabGreatDoor.Run

set_option maxHeartbeats 1000000 in
theorem left_run (S : Nat → Prop) (A : RA) (r : R) (w : World) (h : RunAt w S A r) (t0 : r.a.told ≤ r.a.want.length) (t1 : r.b.told ≤ r.b.want.length) (hb0 : r.a.want.length ≤ 1000000000000000) (hb1 : r.b.want.length ≤ 1000000000000000) :
    Calls Tryz.prog 15 #[.pointer (some ⟨A.rb, 0, none⟩)] w fun e w' => e = .returned (.int .i64 (leftN r)) ∧ ∃ n, w' = w.drewN n := by
  obtain ⟨_, c11, c12, _⟩ := h.cells
  obtain ⟨⟨a, cap, s0⟩, s1, ⟨a', cap', u0⟩, u1⟩ := h.sides
  have HL : Hid ((leftN r : Int) = ((r.a.want.length : Int) - r.a.told + r.b.want.length - r.b.told)) := by unfold Hid leftN; omega
  rw [HL.out]
  clear h HL
  generalize r.a.want.length = la at *
  generalize r.b.want.length = lb at *
  generalize r.a.told = ta at *
  generalize r.b.told = tb at *
  have w1 : IntKind.i64.wrap ((la : Int) - (ta : Int)) = (la : Int) - (ta : Int) := wrap_in _ (by omega) (by omega)
  have w2 : IntKind.i64.wrap ((la : Int) - (ta : Int) + (lb : Int)) = (la : Int) - (ta : Int) + (lb : Int) := wrap_in _ (by omega) (by omega)
  have w3 : IntKind.i64.wrap ((la : Int) - (ta : Int) + (lb : Int) - (tb : Int)) = (la : Int) - (ta : Int) + (lb : Int) - (tb : Int) := wrap_in _ (by omega) (by omega)
  go_enter Tryz.func15, Tryz.ntmps15
  go_wp2
  go_quiet (fail)
  go_wp2
  go_ret
  exact ⟨rfl, _, rfl⟩

set_option maxHeartbeats 2000000 in
theorem blocks_any (F : Nat → Prop) (g : Nat) (s : Side) (w : World) (h : SideAt w F g s) (ht : s.told ≤ s.want.length) (hl : s.want.length ≤ 1000000000000000) (hs : blksN (s.want.drop s.told) ≤ 100000) (hm : ∀ m ∈ s.want, m.text.length ≤ 200) :
    Calls Tryz.prog 31 #[.pointer (some ⟨g, 0, none⟩)] w fun e w' => e = .returned (.int .i64 (blksN (s.want.drop s.told))) ∧ w' = w := by
  obtain ⟨⟨a, cap, s0, hQ⟩, s1, _⟩ := h.all
  have HQ := hide hQ
  have HM := hide hm
  generalize hT : blksN (s.want.drop s.told) = T at *
  have HT := hide hT
  clear h hQ hT hm
  go_enter Tryz.func31, Tryz.ntmps31
  go_wp2
  go_loop [3, 4] (fun n i => ∃ k m : Nat, i = .int .i64 k ∧ n = .int .i64 m ∧ s.told ≤ k ∧ k ≤ s.want.length ∧ m ≤ T ∧ Hid (m + blksN (s.want.drop k) = T)) (fun _ i => s.want.length - (intOf i).toNat)
  case atStart => exact ⟨s.told, 0, rfl, rfl, Nat.le_refl _, ht, by omega, by rw [Hid, Nat.zero_add]; exact HT.out⟩
  case round =>
    obtain ⟨k, m, rfl, rfl, hk1, hk2, hmT, HS⟩ := hrel
    by_cases hlt : k < s.want.length
    · have hne : s.want ≠ [] := fun e => by rw [e] at hlt; simp at hlt
      obtain ⟨q, cap2, eq, _, _, hql, hqc⟩ := HQ.out.some hne
      simp only [Value.slice.injEq, true_and] at eq
      obtain ⟨rfl, rfl⟩ := eq
      obtain ⟨q0, q1, q2⟩ := hqc k hlt
      have hlt' : (k : Int) < (s.want.length : Int) := by omega
      have hstep := blksN_step s.want k hlt
      have htl : (s.want.getD k noMsg).text.length ≤ 200 := HM.out _ (by rw [List.getD, List.getElem?_eq_getElem hlt]; exact List.getElem_mem hlt)
      have HN : Hid (m + ((s.want.getD k noMsg).text.length + 1) + blksN (s.want.drop (k + 1)) = T) := by have := HS.out; rw [hstep] at this; unfold Hid; omega
      have hts : (⟨(s.want.getD k noMsg).text.toArray⟩ : ByteArray).size = (s.want.getD k noMsg).text.length := rfl
      generalize (⟨(s.want.getD k noMsg).text.toArray⟩ : ByteArray) = ts at *
      rw [← hts] at HN htl
      have hmT2 : m + (ts.size + 1) ≤ T := by have := HN.out; omega
      clear hqc hstep hts HS hne
      go_wp2
      go_round
      · exact ⟨k + 1, m + (ts.size + 1), by go_num, by go_num, by omega, by omega, hmT2, HN⟩
      · simp [intOf]; omega
    · have hkl : k = s.want.length := by omega
      have HE : Hid (T = m) := by have := HS.out; rw [hkl, List.drop_length] at this; simp [blksN] at this; exact this.symm
      have hlt' : ¬ (k : Int) < (s.want.length : Int) := by omega
      clear hlt HS
      go_wp2
      go_ret
      exact ⟨by rw [HE.out]; rfl, rfl⟩

/-- The configuration's cells. -/
theorem RunAt.cfg {w : World} {S : Nat → Prop} {A : RA} {r : R} (h : RunAt w S A r) : w.cell? ⟨A.rb, 4, none⟩ = some (.int .i64 r.x.c.queue) ∧ w.cell? ⟨A.rb, 5, none⟩ = some (.int .i64 r.x.c.first) ∧ w.cell? ⟨A.rb, 6, none⟩ = some (.int .i64 r.x.c.second) ∧ w.cell? ⟨A.rb, 7, none⟩ = some (.int .i64 r.x.c.reply) ∧ w.cell? ⟨A.rb, 8, none⟩ = some (.int .i64 r.x.c.lost) ∧ w.cell? ⟨A.rb, 9, none⟩ = some (.int .i64 r.x.c.tries) := by
  obtain ⟨col, h, _⟩ := h
  exact ⟨h.blk.cell 4, h.blk.cell 5, h.blk.cell 6, h.blk.cell 7, h.blk.cell 8, h.blk.cell 9⟩
set_option maxHeartbeats 2000000 in
theorem bound_run (S : Nat → Prop) (A : RA) (r : R) (w : World) (h : RunAt w S A r) (hc : r.x.c.Ok) (t0 : r.a.told ≤ r.a.want.length) (t1 : r.b.told ≤ r.b.want.length) (hb0 : r.a.want.length ≤ 1000000000000000) (hb1 : r.b.want.length ≤ 1000000000000000)
    (hl : leftN r ≤ 100) (hs0 : blksN (r.a.want.drop r.a.told) ≤ 100000) (hs1 : blksN (r.b.want.drop r.b.told) ≤ 100000) (hm0 : ∀ m ∈ r.a.want, m.text.length ≤ 200) (hm1 : ∀ m ∈ r.b.want, m.text.length ≤ 200) :
    Calls Tryz.prog 14 #[.pointer (some ⟨A.rb, 0, none⟩)] w fun e w' => e = .returned (.int .i64 (boundN r)) ∧ ∃ n, w' = w.drewN n := by
  obtain ⟨_, c11, c12, _⟩ := h.cells
  obtain ⟨_, _, k6, k7, k8, k9⟩ := h.cfg
  have h1 := hc.second; have h2 := hc.reply; have h3 := hc.tries; have h4 := hc.lost
  have HH := hide h
  have hp : (r.x.c.tries + 4) * r.x.c.reply ≤ 11 * 20 := Nat.mul_le_mul (by omega) (by omega)
  have hpi : ((r.x.c.tries : Int) + 4) * (r.x.c.reply : Int) = (((r.x.c.tries + 4) * r.x.c.reply : Nat) : Int) := by simp
  have HT : Hid ((turnN r.x.c : Int) = (r.x.c.lost : Int) + 4 * (r.x.c.second : Int) + (((r.x.c.tries + 4) * r.x.c.reply : Nat) : Int) + 10 ∧ turnN r.x.c ≤ 600) := by unfold Hid turnN; omega
  have HBd : Hid ((boundN r : Int) = ((leftN r : Int) + 2) * (turnN r.x.c : Int) + 2 * ((blksN (r.a.want.drop r.a.told) : Int) + (blksN (r.b.want.drop r.b.told) : Int))) := by unfold Hid boundN; simp
  have hm : (leftN r + 2) * turnN r.x.c ≤ 102 * 600 := Nat.mul_le_mul (by omega) HT.out.2
  have hmi : ((leftN r : Int) + 2) * (turnN r.x.c : Int) = (((leftN r + 2) * turnN r.x.c : Nat) : Int) := by simp
  obtain ⟨SA, SB⟩ : (∃ F : Nat → Prop, Hid (∀ n, SideAt (w.drewN n) F A.ab r.a)) ∧ ∃ F : Nat → Prop, Hid (∀ n, SideAt (w.drewN n) F A.bb r.b) := by
    obtain ⟨col, h', _⟩ := h
    exact ⟨⟨_, fun n => h'.sa.keep rfl (fun _ _ _ => rfl)⟩, ⟨_, fun n => h'.sb.keep rfl (fun _ _ _ => rfl)⟩⟩
  obtain ⟨FA, HA⟩ := SA
  obtain ⟨FB, HBs⟩ := SB
  have M0 := hide hm0
  have M1 := hide hm1
  clear h hc hm0 hm1
  generalize hTv : turnN r.x.c = tv at *
  generalize hPv : (r.x.c.tries + 4) * r.x.c.reply = pv at *
  have HTv := HT.out.1
  have w1 : IntKind.i64.wrap (4 * (r.x.c.second : Int)) = 4 * (r.x.c.second : Int) := wrap_in _ (by omega) (by omega)
  have w2 : IntKind.i64.wrap ((r.x.c.lost : Int) + 4 * (r.x.c.second : Int)) = (r.x.c.lost : Int) + 4 * (r.x.c.second : Int) := wrap_in _ (by omega) (by omega)
  have w3 : IntKind.i64.wrap ((r.x.c.tries : Int) + 4) = (r.x.c.tries : Int) + 4 := wrap_in _ (by omega) (by omega)
  have w4 : IntKind.i64.wrap (((r.x.c.tries : Int) + 4) * (r.x.c.reply : Int)) = (pv : Int) := by rw [hpi]; exact wrap_in _ (by omega) (by omega)
  have w5 : IntKind.i64.wrap ((r.x.c.lost : Int) + 4 * (r.x.c.second : Int) + (pv : Int)) = (r.x.c.lost : Int) + 4 * (r.x.c.second : Int) + (pv : Int) := wrap_in _ (by omega) (by omega)
  have w6 : IntKind.i64.wrap ((r.x.c.lost : Int) + 4 * (r.x.c.second : Int) + (pv : Int) + 10) = (tv : Int) := by rw [HTv]; exact wrap_in _ (by omega) (by omega)
  have HT' := hide HT
  clear hpi hTv hPv HTv HT hp
  go_enter Tryz.func14, Tryz.ntmps14
  go_wp2
  go_quiet (fail)
  go_wp2_with fail
  refine (blocks_any FA A.ab r.a _ (HA.out _) t0 hb0 hs0 M0.out).mono ?_
  rintro e w7 ⟨rfl, hw7⟩
  obtain rfl := hw7.symm
  go_wp2_with fail
  refine (blocks_any FB A.bb r.b _ (HBs.out _) t1 hb1 hs1 M1.out).mono ?_
  rintro e w8 ⟨rfl, hw8⟩
  obtain rfl := hw8.symm
  go_wp2_with fail
  refine (left_run S A r _ (HH.out.below (below_drewN (Below.refl _ _) _)) t0 t1 hb0 hb1).mono ?_
  rintro e w9 ⟨rfl, n9, rfl⟩
  generalize blksN (r.a.want.drop r.a.told) = ba at *
  generalize blksN (r.b.want.drop r.b.told) = bb at *
  generalize leftN r = lf at *
  have hM0 : 0 ≤ ((lf : Int) + 2) * (tv : Int) := by rw [hmi]; omega
  have hM1 : ((lf : Int) + 2) * (tv : Int) ≤ 61200 := by rw [hmi]; omega
  generalize hMM : ((lf : Int) + 2) * (tv : Int) = M at *
  have hMr : ((lf : Int) + 2) * (tv : Int) = M := hMM
  clear hMM hmi hm w1 w2 w3 w4 w5 w6
  go_wp2
  go_ret
  exact ⟨by rw [HBd.out]; rfl, _, rfl⟩

end Go.Proofs.YtlbpjcphhocdkabGreatDoor

namespace Go.Proofs.YtlbpjcphhocdkabGreatDoor
set_option maxRecDepth 1000000
open Go.RowKit Go.Proofs.YtlbpjcphhocdkabGreatDoor.Mod Go.Proofs.YtlbpjcphhocdkabGreatDoor.Pst Go.Proofs.YtlbpjcphhocdkabGreatDoor.Run

/-- The library's table stands, below n. -/
def Tab (w : World) (n : Nat) : Prop := Lib.TabIs Tryz.prog w "internal/strconv.uint64pow10" .u64 Lib.pow10Tab ∧ ∀ g, Tryz.prog.globalNamed "internal/strconv.uint64pow10" = some g → g < n
theorem Tab.keep {w w' : World} {n : Nat} (h : Tab w n) (k : ∀ g, g < n → w'.heap[g]? = w.heap[g]?) : Tab w' n := by
  refine ⟨?_, h.2⟩
  have h1 := h.1
  unfold Lib.TabIs World.var? at h1 ⊢
  cases e : Tryz.prog.globalNamed "internal/strconv.uint64pow10" with
  | none => rw [e] at h1; exact h1
  | some g =>
    rw [e] at h1
    simp only [Option.bind_some] at h1 ⊢
    rw [k g (h.2 g e)]
    exact h1
theorem Tab.below {w w' : World} {n : Nat} (h : Tab w n) (k : Below w.heap.size w w') (hn : n ≤ w.heap.size) : Tab w' n := h.keep fun g hg => k.block g (by omega)
theorem Tab.fr {w w' : World} {S : Nat → Prop} {n : Nat} (h : Tab w n) (k : Fr S w w') (hn : n ≤ w.heap.size) (hS : ∀ g, S g → n ≤ g) : Tab w' n :=
  h.keep fun g hg => k.block g (by omega) (fun x => by have := hS g x; omega)

theorem itoa_any (k n : Nat) (w : World) (hk : k ≤ 1000000000000000) (ht : Tab w n) :
    Calls Tryz.prog 25 #[.int .i64 k] w fun e w' => ∃ s : ByteArray, e = .returned (.string s) ∧ s.size ≤ 21 ∧ Below w.heap.size w w' := by
  refine Calls.mono (Any.strconv_Itoa laysItoa (k : Int) (by omega) (by omega) w ht.1) ?_
  rintro e w' ⟨rfl, n, os, rfl⟩
  refine ⟨_, rfl, ?_, ?_⟩
  · have := Lib.itoa_length_le (k : Int) (by omega) (by omega)
    simpa [ByteArray.size] using this
  · have hb := below_drewN (Below.refl w.heap.size w) n
    refine ⟨hb.os, hb.tape, hb.output, ?_, fun g hg => ?_⟩
    · rw [Sort.size_grow]; have := hb.size; omega
    · rw [Sort.heap_grow_old _ _ (by have := hb.size; omega)]
      exact hb.block g hg

/-- A message joins a side's list. -/
theorem SideAt.app {w w' : World} {F : Nat → Prop} {g : Nat} {s : Side} {m : Msg} {v' : Value} (h : SideAt w F g s) (hb : w'.heap[g]? = w.heap[g]?)
    (hown : w'.ownsRow 0 36 3 v' (s.want.length + 1) (mcells s.want ++ msgCells m)) {G : Nat → Prop} (hG : ∀ x, v'.ownBlock = some x → G x) (hnG : ¬ G g) : SideAt (w'.setCell ⟨g, 0, none⟩ v') G g { s with want := s.want ++ [m] } := by
  obtain ⟨u, h1, h2⟩ := h
  have hQ : QAt w' G v' (s.want ++ [m]) := by
    refine ⟨?_, hG⟩
    rw [mcells_append, List.length_append, show mcells [m] = msgCells m by simp [mcells]]
    exact hown
  refine ⟨v', ?_, hQ.set hnG _ _⟩
  rw [heap_set _ _ _ _ _ _ _ (hb.trans h1)]
  rfl
theorem SideAt.val {w : World} {F : Nat → Prop} {g : Nat} {s : Side} {v : Value} (h : SideAt w F g s) (hv : w.cell? ⟨g, 0, none⟩ = some v) : QAt w F v s.want := by
  obtain ⟨u, h1, h2⟩ := h
  have : w.cell? ⟨g, 0, none⟩ = some u := by simp [World.cell?, h1]
  rw [this] at hv
  cases hv
  exact h2
theorem RunAt.app {w W w' : World} {S : Nat → Prop} {A : RA} {r : R} {st : Int} {m : Msg} {v v' : Value} (h : RunAt w S A r) (hW : Below w.heap.size w W) (hv : w.cell? ⟨sideB A st, 0, none⟩ = some v) (hg : W.grownBy w' v.ownBlock)
    (hown : w'.ownsRow 0 36 3 v' ((sideOf r st).want.length + 1) (mcells (sideOf r st).want ++ msgCells m)) (hk : ∀ g, v'.ownBlock = some g → v.ownBlock = some g ∨ W.heap.size ≤ g) :
    RunAt (w'.setCell ⟨sideB A st, 0, none⟩ v') (Plus S w) A (setSide r st { sideOf r st with want := (sideOf r st).want ++ [m] }) ∧ Fr S w (w'.setCell ⟨sideB A st, 0, none⟩ v') := by
  obtain ⟨col, hC, hS⟩ := h
  have hlt : ∀ g, col g ≠ 0 → g < w.heap.size := fun g hg => (hS g hg).2
  obtain ⟨hs, hc⟩ := hC.side st
  have hQ := hs.val hv
  have hsz : w.heap.size ≤ w'.heap.size := Nat.le_trans hW.size hg.size
  have hsz' : (w'.setCell ⟨sideB A st, 0, none⟩ v').heap.size = w'.heap.size := by simp
  have own5 : ∀ g, v.ownBlock = some g → col g = if st = 0 then 5 else 6 := fun g e => hQ.2 g e
  have kb : ∀ g, g < w.heap.size → col g ≠ (if st = 0 then 5 else 6) → w'.heap[g]? = w.heap[g]? := fun g hgl hne => (hg.block g (by have := hW.size; omega) (fun e => hne (own5 g e.symm))).trans (hW.block g hgl)
  have hB : w'.heap[sideB A st]? = w.heap[sideB A st]? := kb _ hs.lt (by rw [hc]; split <;> decide)
  have kb' : ∀ g, g < w.heap.size → col g ≠ (if st = 0 then 5 else 6) → col g ≠ (if st = 0 then 2 else 3) → (w'.setCell ⟨sideB A st, 0, none⟩ v').heap[g]? = w.heap[g]? := by
    intro g hgl h1 h2
    rw [Below.heap_setCell _ _ _ _ (fun e => h2 (by have e' : g = sideB A st := e; rw [e']; exact hc))]
    exact kb g hgl h1
  have hfr : Fr S w (w'.setCell ⟨sideB A st, 0, none⟩ v') := by
    refine ⟨hg.os.trans hW.os, hg.tape.trans hW.tape, hg.output.trans hW.output, by rw [hsz']; exact hsz, fun g hgl hn => ?_⟩
    have z : col g = 0 := by
      by_cases z : col g = 0
      · exact z
      · exact absurd (hS g z).1 hn
    exact kb' g hgl (by rw [z]; split <;> decide) (by rw [z]; split <;> decide)
  refine ⟨?_, hfr⟩
  have hnew : ∀ g, v'.ownBlock = some g → g < w'.heap.size := fun g e => (show QAt w' (fun _ => True) v' ((sideOf r st).want ++ [m]) from ⟨by rw [mcells_append, List.length_append, show mcells [m] = msgCells m by simp [mcells]]; exact hown, fun _ _ => trivial⟩).lt g e
  refine ⟨fun g => if g < w.heap.size then col g else if v'.ownBlock = some g then (if st = 0 then 5 else 6) else 0, ?_, ?_⟩
  · have kk : ∀ n, n ≠ 0 → n ≠ (if st = 0 then 5 else 6) → ∀ g, (if g < w.heap.size then col g else if v'.ownBlock = some g then (if st = 0 then 5 else 6) else 0) = n → col g = n ∧ g < w.heap.size := by
      intro n h0 h4 g hgn
      split at hgn
      · rename_i z; exact ⟨hgn, z⟩
      · split at hgn
        · exact absurd hgn.symm h4
        · exact absurd hgn.symm h0
    have s1 := hC.lt
    have s2 := hC.sa.lt
    have s3 := hC.sb.lt
    have mine : SideAt (w'.setCell ⟨sideB A st, 0, none⟩ v') (fun g => (if g < w.heap.size then col g else if v'.ownBlock = some g then (if st = 0 then 5 else 6) else 0) = if st = 0 then 5 else 6) (sideB A st) { sideOf r st with want := (sideOf r st).want ++ [m] } := by
      refine hs.app hB hown ?_ ?_
      · intro x e
        rcases hk x e with z | z
        · rw [if_pos (hlt x (by rw [own5 x z]; split <;> decide))]
          exact own5 x z
        · rw [if_neg (by have := hW.size; omega), if_pos e]
      · rw [if_pos hs.lt, hc]
        split <;> decide
    have line : LineAt (w'.setCell ⟨sideB A st, 0, none⟩ v') (fun g => (if g < w.heap.size then col g else if v'.ownBlock = some g then (if st = 0 then 5 else 6) else 0) = 4) A.xb r.x := by
      refine (hC.line.bound.keep (w' := w'.setCell ⟨sideB A st, 0, none⟩ v') (by rw [hsz']; exact hsz) ?_).mono ?_
      · rintro g ⟨z, _⟩ hgl
        exact kb' g hgl (by rw [z]; split <;> decide) (by rw [z]; split <;> decide)
      · rintro g ⟨z, hgl⟩
        rw [if_pos hgl]; exact z
    have blk : RunBlk (w'.setCell ⟨sideB A st, 0, none⟩ v') A r := (kb' A.rb s1 (by rw [hC.c1]; split <;> decide) (by rw [hC.c1]; split <;> decide)).trans hC.blk
    by_cases z : st = 0
    · have zb : sideB A st = A.ab := by unfold sideB; rw [if_pos z]
      have zr : setSide r st { sideOf r st with want := (sideOf r st).want ++ [m] } = { r with a := { sideOf r st with want := (sideOf r st).want ++ [m] } } := by unfold setSide; rw [if_pos z]
      simp only [if_pos z] at mine line kb' kk ⊢
      rw [zb] at mine line blk kb' ⊢
      rw [zr]
      refine ⟨blk, line, mine, ?_, by rw [if_pos s1]; exact hC.c1, by rw [if_pos s2]; exact hC.c2, by rw [if_pos s3]; exact hC.c3⟩
      obtain ⟨u, h1, h2⟩ := hC.sb
      refine ⟨u, (kb' A.bb s3 (by rw [hC.c3]; decide) (by rw [hC.c3]; decide)).trans h1, ?_⟩
      have hq : QAt (w'.setCell ⟨A.ab, 0, none⟩ v') (fun g => col g = 6) u r.b.want := h2.keep fun g hg hl => kb' g hl (by rw [hg]; decide) (by rw [hg]; decide)
      exact ⟨hq.1, fun g hg => by have := h2.lt g hg; simp only [this, if_true]; exact h2.2 g hg⟩
    · have zb : sideB A st = A.bb := by unfold sideB; rw [if_neg z]
      have zr : setSide r st { sideOf r st with want := (sideOf r st).want ++ [m] } = { r with b := { sideOf r st with want := (sideOf r st).want ++ [m] } } := by unfold setSide; rw [if_neg z]
      simp only [if_neg z] at mine line kb' kk ⊢
      rw [zb] at mine line blk kb' ⊢
      rw [zr]
      refine ⟨blk, line, ?_, mine, by rw [if_pos s1]; exact hC.c1, by rw [if_pos s2]; exact hC.c2, by rw [if_pos s3]; exact hC.c3⟩
      obtain ⟨u, h1, h2⟩ := hC.sa
      refine ⟨u, (kb' A.ab s2 (by rw [hC.c2]; decide) (by rw [hC.c2]; decide)).trans h1, ?_⟩
      have hq : QAt (w'.setCell ⟨A.bb, 0, none⟩ v') (fun g => col g = 5) u r.a.want := h2.keep fun g hg hl => kb' g hl (by rw [hg]; decide) (by rw [hg]; decide)
      exact ⟨hq.1, fun g hg => by have := h2.lt g hg; simp only [this, if_true]; exact h2.2 g hg⟩
  · intro g hgn
    by_cases z : g < w.heap.size
    · simp only [z, if_true] at hgn
      exact ⟨Or.inl (hS g hgn).1, by rw [hsz']; omega⟩
    · simp only [z, if_false] at hgn
      by_cases e : v'.ownBlock = some g
      · exact ⟨Or.inr (by omega), by rw [hsz']; exact hnew g e⟩
      · simp only [e, if_false] at hgn
        exact absurd rfl hgn

theorem RunAt.app0 {w W w' : World} {S : Nat → Prop} {A : RA} {r : R} {st : Int} {v : Value} (h : RunAt w S A r) (hW : Below w.heap.size w W) (hv : w.cell? ⟨sideB A st, 0, none⟩ = some v) (hg : W.grownBy w' v.ownBlock) : (∀ j, w'.cell? ⟨sideB A st, j, none⟩ = w.cell? ⟨sideB A st, j, none⟩) ∧ ∀ j, w'.frozen? ⟨sideB A st, j, none⟩ = w.frozen? ⟨sideB A st, j, none⟩ := by
  obtain ⟨col, hC, hS⟩ := h
  obtain ⟨hs, hc⟩ := hC.side st
  have hQ := hs.val hv
  have hb : w'.heap[sideB A st]? = w.heap[sideB A st]? := by
    refine (hg.block _ (by have := hW.size; have := hs.lt; omega) (fun e => ?_)).trans (hW.block _ hs.lt)
    have h1 : col (sideB A st) = if st = 0 then 5 else 6 := hQ.2 _ e.symm
    rw [hc] at h1
    by_cases z : st = 0
    · rw [if_pos z, if_pos z] at h1; exact absurd h1 (by decide)
    · rw [if_neg z, if_neg z] at h1; exact absurd h1 (by decide)
  exact ⟨fun j => World.cell?_of_block hb, fun j => World.frozen?_of_block hb⟩

theorem own_form {w' : World} {l : List Msg} {m : Msg} {v' : Value} (hown : w'.ownsRow 0 36 3 v' (l.length + 1) (mcells l ++ msgCells m)) : ∃ a cap, v' = .slice a (l.length + 1) cap := by
  have := (show QAt w' (fun _ => True) v' (l ++ [m]) from ⟨by rw [mcells_append, List.length_append, show mcells [m] = msgCells m by simp [mcells]]; exact hown, fun _ _ => trivial⟩).form
  simpa using this

end Go.Proofs.YtlbpjcphhocdkabGreatDoor
