/- The law Burst, walked: the bits that are turned. -/
import Derived.Test.YtlbpjcphhocdkaaBackW
import Derived.Test.YtlbpjcphhocdkaaBurP
namespace Go.Proofs.Ytlbpjcphhocdkaa
set_option maxRecDepth 1000000
open Go.RowKit

/-- The row of a conversion at block g holds these bytes. -/
def CnvAt (w : World) (g cap : Nat) (l : List UInt8) : Prop :=
  ∃ cur, w.heap[g]? = some (.cells cur 5 (cur.size, cur.size + 1)) ∧ cur.size = cap ∧ l.length ≤ cap ∧ cur.toList.take l.length = bcells l

theorem cnvAt_new (w : World) (s : ByteArray) : CnvAt (Go.Lib.bytesWorld w 5 s) w.heap.size (grownCap w s.size 0 5) s.data.toList := by
  obtain ⟨g, cap, cur, h1, _, h2⟩ := cnv_new w w.heap.size s (Nat.le_refl _)
  simp only [Value.slice.injEq, Option.some.injEq, Addr.mk.injEq, and_true] at h1
  obtain ⟨rfl, _, rfl⟩ := h1
  exact ⟨cur, h2⟩
theorem CnvAt.cell {w : World} {g cap : Nat} {l : List UInt8} (h : CnvAt w g cap l) (j : Nat) (hj : j < l.length) : w.cell? ⟨g, j, none⟩ = some (.int .u8 (l[j].toNat : Int)) ∧ w.frozen? ⟨g, j, none⟩ = false := by
  obtain ⟨cur, hg, hc, hl, ht⟩ := h
  obtain ⟨g', cap', e, _, _, hf⟩ := CnvB.cell (w := w) (B := g) (v := .slice (some ⟨g, 0, none⟩) l.length cap) (l := l) ⟨g, cap, cur, rfl, Nat.le_refl _, hg, hc, hl, ht⟩
  simp only [Value.slice.injEq, Option.some.injEq, Addr.mk.injEq, and_true, true_and] at e
  obtain ⟨rfl, rfl⟩ := e
  exact hf j hj
theorem CnvAt.set {w : World} {g cap : Nat} {l : List UInt8} (h : CnvAt w g cap l) (j : Nat) (x : UInt8) : CnvAt (w.setCell ⟨g, j, none⟩ (.int .u8 (x.toNat : Int))) g cap (l.set j x) := by
  obtain ⟨cur, hg, hc, hl, ht⟩ := h
  refine ⟨cur.setIfInBounds j (.int .u8 (x.toNat : Int)), ?_, by simpa using hc, by simpa using hl, ?_⟩
  · simp [World.setCell, Array.getElem?_modify, hg]
  · rw [List.length_set, Array.toList_setIfInBounds, List.take_set, ht]
    unfold bcells
    rw [List.map_set]
theorem CnvAt.conv {w : World} {g cap : Nat} {l : List UInt8} (h : CnvAt w g cap l) : (convert 55 9 (.slice (some ⟨g, 0, none⟩) l.length cap)).run Try.prog w = .ok (.string ⟨l.toArray⟩) w :=
  conv_cells w g cap l fun j hj => (h.cell j hj).1

/-- The bits from place lo to place hi may be turned; b: some are. -/
structure Tur (tl cl : List UInt8) (lo hi : Nat) (b : Bool) : Prop where
  len : cl.length = tl.length
  at' : ∀ j, Bur.dif tl cl j = true → lo ≤ j ∧ j < hi
  yes : b = true → ∃ j, Bur.dif tl cl j = true
  no : b = false → cl = tl

theorem Tur.start (tl : List UInt8) (lo : Nat) : Tur tl tl lo lo false := ⟨rfl, fun j h => by simp [Bur.dif] at h, fun h => by simp at h, fun _ => rfl⟩
theorem Tur.more {tl cl : List UInt8} {lo hi : Nat} {b : Bool} (h : Tur tl cl lo hi b) : Tur tl cl lo (hi + 1) b := ⟨h.len, fun j hj => by have := h.at' j hj; omega, h.yes, h.no⟩

theorem bitAt_set (l : List UInt8) (i r : Nat) (hi : i < l.length) (hr : r < 8) (x : UInt8) (hx : x.toNat = l[i].toNat ^^^ 2 ^ r) (j : Nat) : Crc.bitAt (l.set i x) j = (Crc.bitAt l j ^^ decide (j = 8 * i + r)) := by
  unfold Crc.bitAt
  by_cases h : j / 8 = i
  · have e1 : (l.set i x).getD (j / 8) 0 = x := by subst h; simp [List.getD, hi]
    have e2 : l.getD (j / 8) 0 = l[i] := by subst h; simp [List.getD, List.getElem?_eq_getElem hi]
    rw [e1, e2, hx, Nat.testBit_xor, Nat.testBit_two_pow]
    congr 1
    simp only [decide_eq_decide]
    omega
  · have e1 : (l.set i x).getD (j / 8) 0 = l.getD (j / 8) 0 := by simp [List.getD, Ne.symm h]
    rw [e1]
    have : decide (j = 8 * i + r) = false := by simp only [decide_eq_false_iff_not]; omega
    rw [this, Bool.xor_false]
theorem Tur.turn {tl cl : List UInt8} {lo hi : Nat} {b : Bool} (h : Tur tl cl lo hi b) (hlo : lo ≤ hi) (i r : Nat) (hi' : i < cl.length) (hr : r < 8) (he : 8 * i + r = hi) (x : UInt8) (hx : x.toNat = cl[i].toNat ^^^ 2 ^ r) : Tur tl (cl.set i x) lo (hi + 1) true := by
  have key : ∀ j, Bur.dif tl (cl.set i x) j = (Bur.dif tl cl j ^^ decide (j = hi)) := by
    intro j
    unfold Bur.dif
    rw [bitAt_set cl i r hi' hr x hx, he, ← Bool.xor_assoc]
  have hno : Bur.dif tl cl hi = false := by
    cases hd : Bur.dif tl cl hi
    · rfl
    · have := h.at' hi hd; omega
  refine ⟨by rw [List.length_set]; exact h.len, ?_, fun _ => ⟨hi, by rw [key, hno]; simp⟩, fun h => by simp at h⟩
  intro j hj
  rw [key] at hj
  by_cases hjh : j = hi
  · omega
  · have : decide (j = hi) = false := by simp [hjh]
    rw [this, Bool.xor_false] at hj
    have := h.at' j hj
    omega

theorem pow_val (r : Nat) (hr : r < 8) : wrap64 ((2 : Int) ^ r) % 256 = ((2 ^ r : Nat) : Int) := by
  have : ∀ r : Fin 8, wrap64 ((2 : Int) ^ r.val) % 256 = ((2 ^ r.val : Nat) : Int) := by decide +kernel
  exact this ⟨r, hr⟩
theorem turn_val (x : UInt8) (r : Nat) (hr : r < 8) : bits BinOp.xor IntKind.u8 (x.toNat : Int) (wrap64 ((2 : Int) ^ r) % 256) = ((x ^^^ UInt8.ofNat (2 ^ r)).toNat : Int) ∧ (x ^^^ UInt8.ofNat (2 ^ r)).toNat = x.toNat ^^^ 2 ^ r := by
  have hp : 2 ^ r < 256 := by
    have : ∀ r : Fin 8, 2 ^ r.val < 256 := by decide
    exact this ⟨r, hr⟩
  have e : (x ^^^ UInt8.ofNat (2 ^ r)).toNat = x.toNat ^^^ 2 ^ r := by
    rw [UInt8.toNat_xor, UInt8.toNat_ofNat']
    congr 1
    exact Nat.mod_eq_of_lt hp
  refine ⟨?_, e⟩
  rw [pow_val r hr, xor_u8 _ _ (Crc.byte_lt x) hp, e]

/-- What the turning of bits answers. -/
def BurAns (kk : Int) (s r : ByteArray) : Prop :=
  ∃ lo, Tur s.data.toList r.data.toList lo (lo + 16) true ∧ 24 ≤ lo ∧ (∀ j, Bur.dif s.data.toList r.data.toList j = true → j < 8 * (s.size - 1)) ∧ (kk = 0 → lo % 8 = 0 ∧ ∀ j, Bur.dif s.data.toList r.data.toList j = true → j < lo + 8)

theorem BurAns.mk {kk : Int} {s : ByteArray} {cl : List UInt8} {q k wd : Nat} (h : Tur s.data.toList cl (24 + q) (24 + q + k) true) (hk : k ≤ wd) (hw : wd ≤ 16) (hb : q + k ≤ 8 * (s.size - 4)) (hs : 6 ≤ s.size) (h0 : kk = 0 → q % 8 = 0 ∧ wd ≤ 8) : BurAns kk s ⟨cl.toArray⟩ := by
  refine ⟨24 + q, ⟨h.len, fun j hj => ?_, h.yes, h.no⟩, by omega, fun j hj => ?_, fun hk0 => ⟨by have := h0 hk0; omega, fun j hj => ?_⟩⟩
  · have := h.at' j hj; omega
  · have := h.at' j hj; omega
  · have := h.at' j hj
    have := h0 hk0
    omega

set_option maxHeartbeats 4000000 in
theorem burst_one (s : ByteArray) (kk a pt : Int) (w : World) (hs : 6 ≤ s.size) (hs2 : s.size ≤ 400) (ha0 : -9223372036854775808 ≤ a) (ha1 : a ≤ 9223372036854775807) (_hp0 : -9223372036854775808 ≤ pt) (_hp1 : pt ≤ 9223372036854775807) (hk : ¬ kk = 0) :
    Calls Try.prog 32 #[.string s, .int .i64 kk, .int .i64 a, .int .i64 pt] w fun e w' => ∃ r : ByteArray, e = .returned (.string r) ∧ Hid (BurAns kk s r) ∧ Below w.heap.size w w' := by
  have d0 : (kk == 0) = false := by simp [hk]
  have hl := cnvAt_new w s
  have kc := cnv_run w s
  have hb0 := cnv_below w s
  have hz := Go.Lib.bytesWorld_size w 5 s
  have hz2 : s.data.toList.length = s.size := by simp
  generalize Go.Lib.bytesWorld w 5 s = W0 at *
  generalize grownCap w s.size 0 5 = cp at *
  have HL := hide hl
  have HB := hide hb0
  have HKK := hide hk
  clear hl hb0 hk
  have HN : Hid ((8 : Int) * ((s.size : Int) - 4) = ((8 * (s.size - 4) : Nat) : Int)) := by unfold Hid; omega
  go_enter Try.func32, Try.ntmps32
  go_wp2_with fail
  rw [HN.out]
  refine (pick_any a ((8 * (s.size - 4) : Nat) : Int) _ ha0 ha1 (by omega) (by omega)).mono ?_
  rintro e w3 ⟨rfl, rfl⟩
  have hp := pickI_lt a ((8 * (s.size - 4) : Nat) : Int) (by omega)
  generalize pickI a ((8 * (s.size - 4) : Nat) : Int) = pp at *
  obtain ⟨p0, rfl⟩ : ∃ p : Nat, pp = (p : Int) := ⟨pp.toNat, by omega⟩
  go_wp2
  obtain ⟨p, hpe⟩ : ∃ p : Nat, p = p0 := ⟨_, rfl⟩
  subst hpe
  go_loopw [13, 14] (fun b i wr => ∃ (k : Nat) (tb : Bool) (cl : List UInt8), b = .bool tb ∧ i = .int .i64 k ∧ k ≤ 16 ∧ p + k ≤ 8 * (s.size - 4) ∧ CnvAt wr w.heap.size cp cl ∧ Hid (Tur s.data.toList cl (24 + p) (24 + p + k) tb) ∧ Below w.heap.size w wr) (fun _ i _ => 16 - (intOf i).toNat)
  case atStart => exact ⟨0, false, _, rfl, rfl, by omega, by omega, HL.out, Tur.start _ _, HB.out⟩
  case round =>
    obtain ⟨k, tb, cl, rfl, rfl, hk, hpk, hcn, HT, hbel⟩ := hrel
    by_cases hgo : k < 16 ∧ p + k < 8 * (s.size - 4)
    · have g1 : (k : Int) < 16 := by omega
      have g2 : (p : Int) + (k : Int) < ((8 * (s.size - 4) : Nat) : Int) := by omega
      have hi : 3 + (p + k) / 8 < cl.length := by rw [HT.out.len, hz2]; omega
      have hc := hcn.cell _ hi
      have c1 := hc.1
      have c2 := hc.2
      have HX0 : Hid ((cl[3 + (p + k) / 8] ^^^ UInt8.ofNat (2 ^ ((p + k) % 8))).toNat = cl[3 + (p + k) / 8].toNat ^^^ 2 ^ ((p + k) % 8)) := (turn_val _ _ (by omega)).2
      have HV := hide (turn_val cl[3 + (p + k) / 8] ((p + k) % 8) (by omega)).1
      have HTT := hide (HT.out.turn (by omega) (3 + (p + k) / 8) ((p + k) % 8) hi (by omega) (by omega) _ HX0.out)
      have HM := hide HT.out.more
      generalize cl[3 + (p + k) / 8] = x0 at *
      have HC := hide hcn
      clear hc hcn hi
      by_cases hb : (bits BinOp.and IntKind.i64 (pt / 2 ^ k) 1 == 1) = true
      · go_wp2
        go_roundw
        case rel =>
          refine ⟨k + 1, true, _, rfl, by go_num, by omega, by omega, ?_, HTT, hbel.setCell (Nat.le_refl _) _⟩
          rw [HV.out]
          exact HC.out.set _ _
        case measure => simp [intOf]; omega
      · have hb' : (bits BinOp.and IntKind.i64 (pt / 2 ^ k) 1 == 1) = false := by simpa using hb
        clear hb
        go_wp2
        go_roundw
        case rel => exact ⟨k + 1, tb, cl, rfl, by go_num, by omega, by omega, HC.out, HM, hbel⟩
        case measure => simp [intOf]; omega
    · have hcl : cl.length = s.size := by rw [HT.out.len, hz2]
      have e1 : (decide ((k : Int) < 16) && decide ((p : Int) + (k : Int) < ((8 * (s.size - 4) : Nat) : Int))) = false := by simp; omega
      have hdec : ¬ (k : Int) < 16 ∨ ¬ (p : Int) + (k : Int) < ((8 * (s.size - 4) : Nat) : Int) := by omega
      cases tb
      · have hce := HT.out.no rfl
        have hi : 3 + p / 8 < cl.length := by rw [hcl]; omega
        have hc := hcn.cell _ hi
        have c1 := hc.1
        have c2 := hc.2
        have HX0 : Hid ((cl[3 + p / 8] ^^^ UInt8.ofNat (2 ^ (p % 8))).toNat = cl[3 + p / 8].toNat ^^^ 2 ^ (p % 8)) := (turn_val _ _ (by omega)).2
        have HV := hide (turn_val cl[3 + p / 8] (p % 8) (by omega)).1
        have HTT : Hid (Tur s.data.toList (cl.set (3 + p / 8) (cl[3 + p / 8] ^^^ UInt8.ofNat (2 ^ (p % 8)))) (24 + p) (24 + p + 1) true) := by
          have h0 : Tur s.data.toList cl (24 + p) (24 + p) false := by rw [hce]; exact Tur.start _ _
          exact h0.turn (Nat.le_refl _) (3 + p / 8) (p % 8) hi (by omega) (by omega) _ HX0.out
        generalize cl[3 + p / 8] = x0 at *
        have hcs := hcn.set (3 + p / 8) (x0 ^^^ UInt8.ofNat (2 ^ (p % 8)))
        rw [← HV.out] at hcs
        have cv := hcs.conv
        rw [List.length_set, hcl] at cv
        clear hc hcn hcs hce
        rcases hdec with g | g
        · go_wp2
          go_ret
          exact ⟨_, rfl, BurAns.mk HTT.out (by omega : 1 ≤ 16) (by omega) (by omega) hs (fun h => absurd h HKK.out), hbel.setCell (Nat.le_refl _) _⟩
        · by_cases g0 : (k : Int) < 16
          · go_wp2
            go_ret
            exact ⟨_, rfl, BurAns.mk HTT.out (by omega : 1 ≤ 16) (by omega) (by omega) hs (fun h => absurd h HKK.out), hbel.setCell (Nat.le_refl _) _⟩
          · go_wp2
            go_ret
            exact ⟨_, rfl, BurAns.mk HTT.out (by omega : 1 ≤ 16) (by omega) (by omega) hs (fun h => absurd h HKK.out), hbel.setCell (Nat.le_refl _) _⟩
      · have cv := hcn.conv
        rw [hcl] at cv
        clear hcn
        by_cases g0 : (k : Int) < 16
        · have g : ¬ (p : Int) + (k : Int) < ((8 * (s.size - 4) : Nat) : Int) := by omega
          clear hdec
          go_wp2
          go_ret
          exact ⟨_, rfl, BurAns.mk HT.out hk (by omega) (by omega) hs (fun h => absurd h HKK.out), hbel⟩
        · clear hdec
          go_wp2
          go_ret
          exact ⟨_, rfl, BurAns.mk HT.out hk (by omega) (by omega) hs (fun h => absurd h HKK.out), hbel⟩

set_option maxHeartbeats 4000000 in
theorem burst_nil (s : ByteArray) (kk a pt : Int) (w : World) (hs : 6 ≤ s.size) (hs2 : s.size ≤ 400) (ha0 : -9223372036854775808 ≤ a) (ha1 : a ≤ 9223372036854775807) (_hp0 : -9223372036854775808 ≤ pt) (_hp1 : pt ≤ 9223372036854775807) (hk : kk = 0) :
    Calls Try.prog 32 #[.string s, .int .i64 kk, .int .i64 a, .int .i64 pt] w fun e w' => ∃ r : ByteArray, e = .returned (.string r) ∧ Hid (BurAns kk s r) ∧ Below w.heap.size w w' := by
  have d0 : (kk == 0) = true := by simp [hk]
  have hl := cnvAt_new w s
  have kc := cnv_run w s
  have hb0 := cnv_below w s
  have hz := Go.Lib.bytesWorld_size w 5 s
  have hz2 : s.data.toList.length = s.size := by simp
  generalize Go.Lib.bytesWorld w 5 s = W0 at *
  generalize grownCap w s.size 0 5 = cp at *
  have HL := hide hl
  have HB := hide hb0
  have HKK := hide hk
  clear hl hb0 hk
  have HN : Hid ((8 : Int) * ((s.size : Int) - 4) = ((8 * (s.size - 4) : Nat) : Int)) := by unfold Hid; omega
  go_enter Try.func32, Try.ntmps32
  go_wp2_with fail
  rw [HN.out]
  refine (pick_any a ((8 * (s.size - 4) : Nat) : Int) _ ha0 ha1 (by omega) (by omega)).mono ?_
  rintro e w3 ⟨rfl, rfl⟩
  have hp := pickI_lt a ((8 * (s.size - 4) : Nat) : Int) (by omega)
  generalize pickI a ((8 * (s.size - 4) : Nat) : Int) = pp at *
  obtain ⟨p0, rfl⟩ : ∃ p : Nat, pp = (p : Int) := ⟨pp.toNat, by omega⟩
  go_wp2
  obtain ⟨p, hpe⟩ : ∃ p : Nat, (p0 : Int) - (p0 : Int) % 8 = (p : Int) := ⟨p0 - p0 % 8, by omega⟩
  rw [hpe]
  have hp8 : p % 8 = 0 := by omega
  have hpb : p < 8 * (s.size - 4) := by omega
  have HP8 := hide hp8
  clear hpe hp hp8
  go_loopw [13, 14] (fun b i wr => ∃ (k : Nat) (tb : Bool) (cl : List UInt8), b = .bool tb ∧ i = .int .i64 k ∧ k ≤ 8 ∧ p + k ≤ 8 * (s.size - 4) ∧ CnvAt wr w.heap.size cp cl ∧ Hid (Tur s.data.toList cl (24 + p) (24 + p + k) tb) ∧ Below w.heap.size w wr) (fun _ i _ => 8 - (intOf i).toNat)
  case atStart => exact ⟨0, false, _, rfl, rfl, by omega, by omega, HL.out, Tur.start _ _, HB.out⟩
  case round =>
    obtain ⟨k, tb, cl, rfl, rfl, hk, hpk, hcn, HT, hbel⟩ := hrel
    by_cases hgo : k < 8 ∧ p + k < 8 * (s.size - 4)
    · have g1 : (k : Int) < 8 := by omega
      have g2 : (p : Int) + (k : Int) < ((8 * (s.size - 4) : Nat) : Int) := by omega
      have hi : 3 + (p + k) / 8 < cl.length := by rw [HT.out.len, hz2]; omega
      have hc := hcn.cell _ hi
      have c1 := hc.1
      have c2 := hc.2
      have HX0 : Hid ((cl[3 + (p + k) / 8] ^^^ UInt8.ofNat (2 ^ ((p + k) % 8))).toNat = cl[3 + (p + k) / 8].toNat ^^^ 2 ^ ((p + k) % 8)) := (turn_val _ _ (by omega)).2
      have HV := hide (turn_val cl[3 + (p + k) / 8] ((p + k) % 8) (by omega)).1
      have HTT := hide (HT.out.turn (by omega) (3 + (p + k) / 8) ((p + k) % 8) hi (by omega) (by omega) _ HX0.out)
      have HM := hide HT.out.more
      generalize cl[3 + (p + k) / 8] = x0 at *
      have HC := hide hcn
      clear hc hcn hi
      by_cases hb : (bits BinOp.and IntKind.i64 (pt / 2 ^ k) 1 == 1) = true
      · go_wp2
        go_roundw
        case rel =>
          refine ⟨k + 1, true, _, rfl, by go_num, by omega, by omega, ?_, HTT, hbel.setCell (Nat.le_refl _) _⟩
          rw [HV.out]
          exact HC.out.set _ _
        case measure => simp [intOf]; omega
      · have hb' : (bits BinOp.and IntKind.i64 (pt / 2 ^ k) 1 == 1) = false := by simpa using hb
        clear hb
        go_wp2
        go_roundw
        case rel => exact ⟨k + 1, tb, cl, rfl, by go_num, by omega, by omega, HC.out, HM, hbel⟩
        case measure => simp [intOf]; omega
    · have hcl : cl.length = s.size := by rw [HT.out.len, hz2]
      have e1 : (decide ((k : Int) < 8) && decide ((p : Int) + (k : Int) < ((8 * (s.size - 4) : Nat) : Int))) = false := by simp; omega
      have hdec : ¬ (k : Int) < 8 ∨ ¬ (p : Int) + (k : Int) < ((8 * (s.size - 4) : Nat) : Int) := by omega
      cases tb
      · have hce := HT.out.no rfl
        have hi : 3 + p / 8 < cl.length := by rw [hcl]; omega
        have hc := hcn.cell _ hi
        have c1 := hc.1
        have c2 := hc.2
        have HX0 : Hid ((cl[3 + p / 8] ^^^ UInt8.ofNat (2 ^ (p % 8))).toNat = cl[3 + p / 8].toNat ^^^ 2 ^ (p % 8)) := (turn_val _ _ (by omega)).2
        have HV := hide (turn_val cl[3 + p / 8] (p % 8) (by omega)).1
        have HTT : Hid (Tur s.data.toList (cl.set (3 + p / 8) (cl[3 + p / 8] ^^^ UInt8.ofNat (2 ^ (p % 8)))) (24 + p) (24 + p + 1) true) := by
          have h0 : Tur s.data.toList cl (24 + p) (24 + p) false := by rw [hce]; exact Tur.start _ _
          exact h0.turn (Nat.le_refl _) (3 + p / 8) (p % 8) hi (by omega) (by omega) _ HX0.out
        generalize cl[3 + p / 8] = x0 at *
        have hcs := hcn.set (3 + p / 8) (x0 ^^^ UInt8.ofNat (2 ^ (p % 8)))
        rw [← HV.out] at hcs
        have cv := hcs.conv
        rw [List.length_set, hcl] at cv
        clear hc hcn hcs hce
        rcases hdec with g | g
        · go_wp2
          go_ret
          exact ⟨_, rfl, BurAns.mk HTT.out (by omega : 1 ≤ 8) (by omega) (by omega) hs (fun _ => ⟨HP8.out, by omega⟩), hbel.setCell (Nat.le_refl _) _⟩
        · by_cases g0 : (k : Int) < 8
          · go_wp2
            go_ret
            exact ⟨_, rfl, BurAns.mk HTT.out (by omega : 1 ≤ 8) (by omega) (by omega) hs (fun _ => ⟨HP8.out, by omega⟩), hbel.setCell (Nat.le_refl _) _⟩
          · go_wp2
            go_ret
            exact ⟨_, rfl, BurAns.mk HTT.out (by omega : 1 ≤ 8) (by omega) (by omega) hs (fun _ => ⟨HP8.out, by omega⟩), hbel.setCell (Nat.le_refl _) _⟩
      · have cv := hcn.conv
        rw [hcl] at cv
        clear hcn
        by_cases g0 : (k : Int) < 8
        · have g : ¬ (p : Int) + (k : Int) < ((8 * (s.size - 4) : Nat) : Int) := by omega
          clear hdec
          go_wp2
          go_ret
          exact ⟨_, rfl, BurAns.mk HT.out hk (by omega) (by omega) hs (fun _ => ⟨HP8.out, by omega⟩), hbel⟩
        · clear hdec
          go_wp2
          go_ret
          exact ⟨_, rfl, BurAns.mk HT.out hk (by omega) (by omega) hs (fun _ => ⟨HP8.out, by omega⟩), hbel⟩

end Go.Proofs.Ytlbpjcphhocdkaa
