/- The document's long division: what its function remainder answers is the register's two bytes. -/
import Derived.Test.YtlbpjcphhocdkaaSum
namespace Go.Proofs.Ytlbpjcphhocdkaa
set_option maxRecDepth 1000000
open Go.RowKit Go.Joins

def bi (b : Bool) : Int := if b then 1 else 0
def bv (b : Bool) : Value := .int .i64 (bi b)
theorem bi_lo (b : Bool) : 0 ≤ bi b := by cases b <;> decide
theorem bi_hi (b : Bool) : bi b ≤ 1 := by cases b <;> decide

/-- Block g holds the bits L. -/
def Bits (w : World) (g : Nat) (L : List Bool) : Prop := w.heap[g]? = some (.cells (L.map bv).toArray 3 (0, 0))

theorem Bits.cell {w : World} {g : Nat} {L : List Bool} (h : Bits w g L) (j : Nat) (hj : j < L.length) : w.cell? ⟨g, j, none⟩ = some (.int .i64 (bi (L.getD j false))) := by
  rw [cell_of_block h]
  simp [List.getElem?_eq_getElem hj, bv, List.getD]
theorem Bits.free {w : World} {g : Nat} {L : List Bool} (h : Bits w g L) (j : Nat) : w.frozen? ⟨g, j, none⟩ = false := unfrozen_of_block h j
theorem Bits.set {w : World} {g : Nat} {L : List Bool} (h : Bits w g L) (j : Nat) (b : Bool) (x : Int) (hx : x = bi b) : Bits (w.setCell ⟨g, j, none⟩ (.int .i64 x)) g (L.set j b) := by
  subst hx
  unfold Bits
  rw [block_setCell h]
  simp [List.map_set, bv]

theorem Try.infoInt : (Try.prog.info? 3).map (fun i => (i.zero, i.size, i.bytes)) = some (some (.int .i64 0), 1, 8) := by kernel_rfl

theorem run_make_int (w : World) (n : Nat) (m : Int) (hm : m = (n : Int)) (hn : n ≤ 10000000000000) :
    (Instr.makeSlice 73 (.int .i64 m) (.int .i64 m)).run Try.prog w = .ok (.slice (some ⟨w.heap.size, 0, none⟩) n n) (w.alloc (.cells ((List.replicate n false).map bv).toArray 3)) := by
  obtain ⟨i0, hi, hz0, hz1, hz2⟩ := info_parts Try.infoInt
  subst hm
  have h := run_make (P := Try.prog) w 73 3 i0 (.int .i64 0) Try.underlying73 hi hz0 .i64 .i64 n n (by omega) (by omega) (by rw [hz2]; omega) (by omega)
  rw [h, hz1]
  simp only [Int.toNat_natCast, Nat.mul_one]
  congr 3
  apply Array.ext'
  have := toList_madeCells_one (.int .i64 0) n
  rw [show (Value.int IntKind.i64 0).cells = #[.int .i64 0] from rfl, this]
  simp [bv, bi]

theorem bit_i64 (c m : Nat) (hc : c < 256) : bits .and .i64 (wrap64 (c : Int) / 2 ^ m) 1 = bi (c.testBit m) := by
  have h1 : wrap64 (c : Int) = (c : Int) := by simp only [wrap64]; omega
  have h2 : (c : Int) / 2 ^ m = ((c / 2 ^ m : Nat) : Int) := by simp
  have h3 : c / 2 ^ m < 9223372036854775808 := by have := Nat.div_le_self c (2 ^ m); omega
  have h := bits_mask .i64 63 (by decide) (fun n h0 h1 => by rw [IntKind.wrap_i64]; omega) 1 (by decide) ((c / 2 ^ m : Nat) : Int) (Int.natCast_nonneg _) (by have := Int.ofNat_lt.2 h3; exact this)
  have e : ((2 : Int) ^ 1 - 1) = 1 := by decide
  rw [e] at h
  rw [h1, h2, h]
  have t : c.testBit m = decide (c / 2 ^ m % 2 = 1) := by
    rw [← Nat.testBit_zero, Nat.testBit_div_two_pow, Nat.zero_add]
  rw [t]
  unfold bi
  generalize c / 2 ^ m = y
  by_cases hy : y % 2 = 1
  · simp [hy]; omega
  · simp [hy]; omega

theorem getD_set (L : List Bool) (i j : Nat) (b : Bool) (hi : i < L.length) : (L.set i b).getD j false = if i = j then b else L.getD j false := by
  simp only [List.getD, List.getElem?_set]
  by_cases h : i = j
  · subst h; simp [hi]
  · simp [h]

theorem bi_not (b : Bool) : 1 - bi b = bi (!b) := by cases b <;> rfl

/-- Loop 1's step. -/
theorem rem_fill (s : ByteArray) (k : Nat) (L : List Bool) (hL : L.length = 8 * s.size + 17) (hk : k < 8 * s.size) (h8 : k / 8 < s.size)
    (hlo : ∀ j, j < k → L.getD j false = Crc.bitAt s.data.toList j) (hhi : ∀ j, k ≤ j → L.getD j false = false) :
    let b := (s[k / 8]'h8).toNat.testBit (k % 8)
    (L.set k b).length = 8 * s.size + 17 ∧ (∀ j, j < k + 1 → (L.set k b).getD j false = Crc.bitAt s.data.toList j) ∧ (∀ j, k + 1 ≤ j → (L.set k b).getD j false = false) := by
  intro b
  refine ⟨by simp [hL], fun j hj => ?_, fun j hj => ?_⟩
  · rw [getD_set _ _ _ _ (by omega)]
    by_cases h : k = j
    · subst h
      simp only [if_pos]
      have : s.data.toList.getD (k / 8) 0 = s[k / 8]'h8 := by
        simp [List.getD, List.getElem?_eq_getElem (show k / 8 < s.data.toList.length by simpa using h8)]
        rfl
      unfold Crc.bitAt
      rw [this]
    · rw [if_neg h]; exact hlo j (by omega)
  · rw [getD_set _ _ _ _ (by omega), if_neg (by omega)]
    exact hhi j (by omega)

theorem bitAt_past (l : List UInt8) (j : Nat) (h : 8 * l.length ≤ j) : Crc.bitAt l j = false := by
  unfold Crc.bitAt
  have : l.getD (j / 8) 0 = 0 := by
    simp [List.getD, List.getElem?_eq_none (show l.length ≤ j / 8 by omega)]
  rw [this]
  simp

theorem left_zero (B : Nat → Bool) (j : Nat) : Crc.left B 0 j = B j := by simp [Crc.left, Crc.regN]

/-- Loop 2's step, where the bit is set. -/
theorem rem_yes (B : Nat → Bool) (n k : Nat) (L : List Bool) (hL : L.length = n + 17) (hk : k < n) (hb : L.getD k false = true)
    (h : ∀ j, k ≤ j → j < n + 17 → L.getD j false = Crc.left B k j) :
    let L' := (((L.set k false).set (k + 1) (!L.getD (k + 1) false)).set (k + 14) (!L.getD (k + 14) false)).set (k + 16) (!L.getD (k + 16) false)
    L'.length = n + 17 ∧ ∀ j, k + 1 ≤ j → j < n + 17 → L'.getD j false = Crc.left B (k + 1) j := by
  intro L'
  refine ⟨by simp [L', hL], fun j h1 h2 => ?_⟩
  rw [Crc.left_step B k j h1, ← h j (by omega) h2, ← h k (Nat.le_refl _) (by omega), hb]
  show ((((L.set k false).set (k + 1) (!L.getD (k + 1) false)).set (k + 14) (!L.getD (k + 14) false)).set (k + 16) (!L.getD (k + 16) false)).getD j false = _
  rw [getD_set _ _ _ _ (by simp; omega), getD_set _ _ _ _ (by simp; omega), getD_set _ _ _ _ (by simp; omega), getD_set _ _ _ _ (by omega)]
  by_cases a1 : k + 16 = j
  · subst a1; simp
  · by_cases a2 : k + 14 = j
    · subst a2; simp
    · by_cases a3 : k + 1 = j
      · subst a3; simp
      · have b1 : ¬ j = k + 16 := by omega
        have b2 : ¬ j = k + 14 := by omega
        have b3 : ¬ j = k + 1 := by omega
        have b4 : ¬ k = j := by omega
        simp [a1, a2, a3, b1, b2, b3, b4]

theorem rem_no (B : Nat → Bool) (n k : Nat) (L : List Bool) (hk : k < n) (hb : L.getD k false = false)
    (h : ∀ j, k ≤ j → j < n + 17 → L.getD j false = Crc.left B k j) :
    ∀ j, k + 1 ≤ j → j < n + 17 → L.getD j false = Crc.left B (k + 1) j := by
  intro j h1 h2
  rw [Crc.left_step B k j h1, ← h j (by omega) h2, ← h k (Nat.le_refl _) (by omega), hb]
  simp

theorem rem_end (l : List UInt8) (L : List Bool) (h : ∀ j, 8 * l.length ≤ j → j < 8 * l.length + 17 → L.getD j false = Crc.left (Crc.bitAt l) (8 * l.length) j) (k : Nat) (hk : k < 16) :
    L.getD (8 * l.length + k) false = (Crc.crc l).testBit k := by
  rw [h _ (by omega) (by omega), Crc.left, Crc.regN_all, bitAt_past _ _ (by omega)]
  simp

theorem low_bit (x m : Nat) (hm : m < 8) : 2 * (x % 256 / 2 ^ (m + 1)) + (if x.testBit m then 1 else 0) = x % 256 / 2 ^ m := by
  have := Crc.gather (x % 256) m
  rw [show (256 : Nat) = 2 ^ 8 from rfl, Nat.testBit_mod_two_pow] at this
  simpa [hm] using this
theorem high_bit (x m : Nat) : 2 * (x / 256 / 2 ^ (m + 1)) + (if x.testBit (m + 8) then 1 else 0) = x / 256 / 2 ^ m := by
  have := Crc.gather (x / 256) m
  rw [show (256 : Nat) = 2 ^ 8 from rfl, Nat.testBit_div_two_pow] at this
  exact this

set_option maxHeartbeats 1000000 in
theorem remainder_any (s : ByteArray) (w : World) (hs : s.size ≤ 1000000000000) :
    Calls Try.prog 36 #[.string s] w fun e w' => e = .returned (.string ⟨(Crc.crcS s.data.toList).toArray⟩) ∧ Below w.heap.size w w' := by
  have c2 := conv_lit2
  have hmk := run_make_int w (8 * s.size + 17) (8 * (s.size : Int) + 17) (by omega) (by omega)
  have hm0 : Bits (w.alloc (.cells ((List.replicate (8 * s.size + 17) false).map bv).toArray 3)) w.heap.size (List.replicate (8 * s.size + 17) false) := heap_alloc_new w _
  have hb0 : Below w.heap.size w (w.alloc (.cells ((List.replicate (8 * s.size + 17) false).map bv).toArray 3)) := (Below.refl _ _).alloc (Nat.le_refl _) _
  generalize hW : w.alloc (.cells ((List.replicate (8 * s.size + 17) false).map bv).toArray 3) = W0 at *
  have HW := hide hW
  clear hW
  go_enter Try.func36, Try.ntmps36
  go_wp2
  go_loopw [5] (fun i wr => ∃ k : Nat, ∃ L : List Bool, k ≤ 8 * s.size ∧ i = .int .i64 k ∧ L.length = 8 * s.size + 17 ∧ Bits wr w.heap.size L ∧ Below w.heap.size w wr ∧ (∀ j, j < k → L.getD j false = Crc.bitAt s.data.toList j) ∧ (∀ j, k ≤ j → L.getD j false = false)) (fun i _ => 8 * s.size - (intOf i).toNat)
  case atStart => exact ⟨0, _, by omega, rfl, by simp, hm0, hb0, fun j hj => by omega, fun j _ => by simp [List.getD, List.getElem?_replicate]; split <;> rfl⟩
  case round =>
    obtain ⟨k, L, hk, rfl, hL, hbits, hbel, hlo, hhi⟩ := hrel
    by_cases hlt : k < 8 * s.size
    · have hc := hbits.cell k (by omega)
      have hf := hbits.free k
      have H1 := hide hlo
      have H2 := hide hhi
      have h8 : k / 8 < s.size := by omega
      clear hlo hhi
      go_wp2
      go_roundw
      case rel =>
        have hr := rem_fill s k L hL hlt h8 H1.out H2.out
        exact ⟨k + 1, _, by omega, by go_num, hr.1, hbits.set k _ _ (bit_i64 _ _ (Crc.byte_lt _)), hbel.setCell (Nat.le_refl _) _, hr.2.1, hr.2.2⟩
      case measure => simp [intOf]; omega
    · obtain rfl : k = 8 * s.size := by omega
      have HS : Hid (∀ j, 0 ≤ j → j < 8 * s.size + 17 → L.getD j false = Crc.left (Crc.bitAt s.data.toList) 0 j) := by
        intro j _ _
        rw [left_zero]
        by_cases h : j < 8 * s.size
        · exact hlo j h
        · rw [hhi j (by omega), bitAt_past _ _ (by simp; omega)]
      clear hlo hhi hm0 hb0 hmk HW hlt hk
      go_wp2
      go_loopw [6] (fun i wr => ∃ k : Nat, ∃ L : List Bool, k ≤ 8 * s.size ∧ i = .int .i64 k ∧ L.length = 8 * s.size + 17 ∧ Bits wr w.heap.size L ∧ Below w.heap.size w wr ∧ (∀ j, k ≤ j → j < 8 * s.size + 17 → L.getD j false = Crc.left (Crc.bitAt s.data.toList) k j)) (fun i _ => 8 * s.size - (intOf i).toNat)
      case atStart => exact ⟨0, L, by omega, rfl, hL, hbits, hbel, HS.out⟩
      case round =>
        clear hbits hbel hL HS
        clear L
        obtain ⟨k, L, hk, rfl, hL, hbits, hbel, hlo⟩ := hrel
        have HL := hide hlo
        clear hlo
        by_cases hlt : k < 8 * s.size
        · have hc := hbits.cell k (by omega)
          have hf := hbits.free k
          cases hb : L.getD k false
          · have HB := hide hb
            rw [hb] at hc
            clear hb
            have hc' : wr.cell? ⟨w.heap.size, k, none⟩ = some (.int .i64 0) := hc
            clear hc
            go_wp2
            go_roundw
            case rel => exact ⟨k + 1, L, by omega, by go_num, hL, hbits, hbel, rem_no _ _ _ _ hlt HB.out HL.out⟩
            case measure => simp [intOf]; omega
          · have HB := hide hb
            rw [hb] at hc
            clear hb
            have hc' : wr.cell? ⟨w.heap.size, k, none⟩ = some (.int .i64 1) := hc
            clear hc
            have hc1 := hbits.cell (k + 1) (by omega)
            have hf1 := hbits.free (k + 1)
            have hc2 := hbits.cell (k + 14) (by omega)
            have hf2 := hbits.free (k + 14)
            have hc3 := hbits.cell (k + 16) (by omega)
            have hf3 := hbits.free (k + 16)
            have l1 := bi_lo (L.getD (k + 1) false)
            have g1 := bi_hi (L.getD (k + 1) false)
            have l2 := bi_lo (L.getD (k + 14) false)
            have g2 := bi_hi (L.getD (k + 14) false)
            have l3 := bi_lo (L.getD (k + 16) false)
            have g3 := bi_hi (L.getD (k + 16) false)
            have n1 := hide (bi_not (L.getD (k + 1) false))
            have n2 := hide (bi_not (L.getD (k + 14) false))
            have n3 := hide (bi_not (L.getD (k + 16) false))
            have HR := hide (rem_yes _ _ _ _ hL hlt HB.out HL.out)
            generalize hx1 : L.getD (k + 1) false = b1 at *
            generalize hx2 : L.getD (k + 14) false = b2 at *
            generalize hx3 : L.getD (k + 16) false = b3 at *
            clear hx1 hx2 hx3
            generalize bi b1 = x1 at *
            generalize bi b2 = x2 at *
            generalize bi b3 = x3 at *
            go_wp2
            go_roundw
            case rel =>
              have hr := HR.out
              exact ⟨k + 1, _, by omega, by go_num, hr.1, (((hbits.set k false _ rfl).set (k + 1) _ _ n1.out).set (k + 14) _ _ n2.out).set (k + 16) _ _ n3.out, (((hbel.setCell (Nat.le_refl _) _).setCell (Nat.le_refl _) _).setCell (Nat.le_refl _) _).setCell (Nat.le_refl _) _, hr.2⟩
            case measure => simp [intOf]; omega
        · obtain rfl : k = 8 * s.size := by omega
          have hz : s.data.toList.length = s.size := by simp
          have HE := hide (rem_end s.data.toList L (by rw [hz]; exact HL.out))
          have HC : Hid (Crc.crcS s.data.toList = [UInt8.ofNat (Crc.crc s.data.toList % 256), UInt8.ofNat (Crc.crc s.data.toList / 256)]) := rfl
          have hlt2 := Crc.crc_lt s.data.toList
          rw [hz] at HE
          generalize Crc.crc s.data.toList = R at *
          clear HL hlt hk hz
          go_wp2
          go_loop [7, 8, 9] (fun a b i => ∃ m : Nat, m ≤ 8 ∧ i = .int .i64 ((m : Int) - 1) ∧ a = .int .i64 (R % 256 / 2 ^ m : Nat) ∧ b = .int .i64 (R / 256 / 2 ^ m : Nat)) (fun _ _ i => (intOf i + 1).toNat)
          case atStart => exact ⟨8, by omega, rfl, by rw [Nat.div_eq_of_lt (by omega)]; rfl, by rw [Nat.div_eq_of_lt (by omega)]; rfl⟩
          case round =>
            obtain ⟨m, hm, rfl, rfl, rfl⟩ := hrel
            match m, hm with
            | 0, _ =>
              go_wp2
              go_ret
              refine ⟨?_, hbel.alloc (by have := hbel.size; omega) _⟩
              rw [HC.out]
              simp [strOfNums]
              exact ⟨congrArg UInt8.ofNat (by omega), congrArg UInt8.ofNat (by omega)⟩
            | m + 1, hm =>
              have e1 : (((m + 1 : Nat) : Int) - 1) = (m : Int) := by omega
              rw [e1]
              clear e1
              have hc1 := hbits.cell (8 * s.size + m) (by omega)
              have hc2 := hbits.cell (8 * s.size + 8 + m) (by omega)
              rw [HE.out m (by omega)] at hc1
              rw [show 8 * s.size + 8 + m = 8 * s.size + (m + 8) by omega, HE.out (m + 8) (by omega), show 8 * s.size + (m + 8) = 8 * s.size + 8 + m by omega] at hc2
              have L1 := low_bit R m (by omega)
              have L2 := high_bit R m
              have b1 : R % 256 / 2 ^ (m + 1) ≤ 65535 := by have := Nat.div_le_self (R % 256) (2 ^ (m + 1)); omega
              have b2 : R / 256 / 2 ^ (m + 1) ≤ 65535 := by have := Nat.div_le_self (R / 256) (2 ^ (m + 1)); omega
              have e1 : bi (R.testBit m) = ((if R.testBit m then 1 else 0 : Nat) : Int) := by cases R.testBit m <;> rfl
              have e2 : bi (R.testBit (m + 8)) = ((if R.testBit (m + 8) then 1 else 0 : Nat) : Int) := by cases R.testBit (m + 8) <;> rfl
              have l1 := bi_lo (R.testBit m)
              have g1 := bi_hi (R.testBit m)
              have l2 := bi_lo (R.testBit (m + 8))
              have g2 := bi_hi (R.testBit (m + 8))
              generalize hy1 : bi (R.testBit m) = y1 at *
              generalize hy2 : bi (R.testBit (m + 8)) = y2 at *
              have N1 : Hid (2 * ((R % 256 / 2 ^ (m + 1) : Nat) : Int) + y1 = ((R % 256 / 2 ^ m : Nat) : Int)) := by rw [Hid, e1, ← L1]; omega
              have N2 : Hid (2 * ((R / 256 / 2 ^ (m + 1) : Nat) : Int) + y2 = ((R / 256 / 2 ^ m : Nat) : Int)) := by rw [Hid, e2, ← L2]; omega
              clear e1 e2 L1 L2 hy1 hy2
              generalize R % 256 / 2 ^ (m + 1) = z1 at *
              generalize R / 256 / 2 ^ (m + 1) = z2 at *
              go_wp2
              go_round
              case rel => exact ⟨m, by omega, by go_num, congrArg (Value.int .i64) N1.out, congrArg (Value.int .i64) N2.out⟩
              case measure => simp [intOf]
end Go.Proofs.Ytlbpjcphhocdkaa
