/- The law Burst, walked: a block in which bits are turned is no block, and nothing else either. -/
import Derived.Test.YtlbpjcphhocdkaaBurW
namespace Go.Proofs.Ytlbpjcphhocdkaa
open Go.RowKit

theorem bitAt_drop2 (a b : UInt8) (l : List UInt8) (j : Nat) : Crc.bitAt (a :: b :: l) (16 + j) = Crc.bitAt l j := by
  unfold Crc.bitAt
  rw [show (16 + j) / 8 = j / 8 + 1 + 1 by omega, show (16 + j) % 8 = j % 8 by omega]
  simp [List.getD]
theorem bitAt_left (l r : List UInt8) (j : Nat) (hj : j < 8 * l.length) : Crc.bitAt (l ++ r) j = Crc.bitAt l j := by
  unfold Crc.bitAt
  have : j / 8 < l.length := by omega
  simp [List.getD, List.getElem?_append, this]
theorem bitAt_out (l : List UInt8) (j : Nat) (hj : 8 * l.length ≤ j) : Crc.bitAt l j = false := by
  unfold Crc.bitAt
  have : l.length ≤ j / 8 := by omega
  simp [List.getD, List.getElem?_eq_none this]

theorem burst_reads {k : Int} {s r : ByteArray} {h : List UInt8} {ps : List (List UInt8)} {c t : Bool} {A : Ans} (hI : s.data.toList = [22, 22] ++ Blk.body h ps c t k ++ [255]) (hE : Blk.encE h ps c k = 0) (hb : BurAns k s r) (hr : ReadsAs k r.data.toList A) :
    ∃ n, A = .none n ∧ (n = 0 ∨ n = 1) := by
  obtain ⟨lo, ht, hlo, hhi, h8⟩ := hb
  have hN := body_len t hE
  have g := encE_good t [255] hE
  have g22 := (good_begins g).2
  generalize hB : Blk.body h ps c t k = B at *
  have hsz : s.size = B.length + 3 := by
    have := congrArg List.length hI
    simp only [List.length_append, List.length_cons, List.length_nil] at this
    rw [← size_list, this]
    omega
  have hlen := ht.len
  generalize hR : r.data.toList = R at *
  rw [hI] at ht hhi h8 hlen
  simp only [List.length_append, List.length_cons, List.length_nil] at hlen
  have hno : ∀ j, ¬ (lo ≤ j ∧ j < lo + 16 ∧ j < 8 * (s.size - 1)) → Bur.dif ([22, 22] ++ B ++ [255]) R j = false := by
    intro j hj
    cases hd : Bur.dif ([22, 22] ++ B ++ [255]) R j
    · rfl
    · exact absurd ⟨(ht.at' j hd).1, (ht.at' j hd).2, hhi j hd⟩ hj
  have e0 := Bur.dif_byte _ _ 0 (fun j a b => hno j (by omega))
  have e1 := Bur.dif_byte _ _ 1 (fun j a b => hno j (by omega))
  have e2 := Bur.dif_byte _ _ 2 (fun j a b => hno j (by omega))
  have eL := Bur.dif_byte _ _ (B.length + 2) (fun j a b => hno j (by omega))
  match R, hlen with
  | x0 :: x1 :: R2, hlen =>
    simp only [List.length_cons] at hlen
    have f0 : x0 = 22 := by simpa using e0.symm
    have f1 : x1 = 22 := by simpa using e1.symm
    have f2 : R2.getD 0 0 = (B ++ [255]).getD 0 0 := by simpa [List.getD] using e2.symm
    have fL : R2.getD B.length 0 = 255 := by
      have : ([22, 22] ++ B ++ [255]).getD (B.length + 2) 0 = 255 := by simp [List.getD]
      rw [this] at eL
      simpa [List.getD] using eL.symm
    subst f0 f1
    have hrest : Prs.restL (22 :: 22 :: R2) = R2 := restL_syns 0 R2 (by rw [f2]; exact g22)
    have hR2 : R2 = R2.take B.length ++ [255] := by
      have hl : R2.length = B.length + 1 := by omega
      have := List.take_append_drop B.length R2
      have hd : R2.drop B.length = [255] := by
        rw [List.drop_eq_getElem_cons (by omega)]
        have : R2[B.length] = 255 := by simpa [List.getD, List.getElem?_eq_getElem (show B.length < R2.length by omega)] using fL
        rw [this, List.drop_of_length_le (by omega)]
      rw [← hd]
      exact this.symm
    cases A with
    | none n =>
      refine ⟨n, rfl, ?_⟩
      rcases hr with ⟨_, rfl, _⟩ | ⟨_, hs⟩
      · exact Or.inr rfl
      · rcases hs with ⟨h1, h2, h3⟩ | ⟨h1, _⟩
        · exfalso
          rw [hrest] at h3
          have := congrArg List.length h3
          have hz := sbody_size n
          simp only [List.length_append, List.length_cons, List.length_nil] at this
          omega
        · exact Or.inl h1
    | data h' ps' c' t' =>
      exfalso
      obtain ⟨_, g'⟩ := hr
      rw [hrest] at g'
      have e := g'.eq
      rw [hR2] at e
      have eB : R2.take B.length = Blk.body h' ps' c' t' k := List.append_cancel_right e
      have hl2 : (R2.take B.length).length = B.length := by simp; omega
      have hdif : ∀ j, j < 8 * B.length → Bur.dif B (R2.take B.length) j = Bur.dif ([22, 22] ++ B ++ [255]) (22 :: 22 :: R2) (16 + j) := by
        intro j hj
        unfold Bur.dif
        have a1 : ([22, 22] ++ B ++ [255] : List UInt8) = 22 :: 22 :: (B ++ [255]) := by simp
        rw [a1, bitAt_drop2, bitAt_drop2, bitAt_left _ _ _ hj]
        congr 1
        have := bitAt_left (R2.take B.length) [255] j (by omega)
        rw [← hR2] at this
        exact this.symm
      have hdo : ∀ j, Bur.dif B (R2.take B.length) j = true → j < 8 * B.length := by
        intro j hj
        rcases Nat.lt_or_ge j (8 * B.length) with h | h
        · exact h
        · exfalso
          unfold Bur.dif at hj
          rw [bitAt_out _ _ h, bitAt_out _ _ (by omega)] at hj
          cases hj
      subst hB
      rw [eB] at hdif hdo hl2
      refine Bur.no_other g.kc (lo - 16) hl2.symm (fun j hj => ?_) (fun hk0 => ⟨by have := (h8 hk0).1; omega, fun j hj => ?_⟩) ?_
      · have := hdif j (hdo j hj)
        rw [hj] at this
        have := ht.at' _ this.symm
        omega
      · have := hdif j (hdo j hj)
        rw [hj] at this
        have := (h8 hk0).2 _ this.symm
        omega
      · obtain ⟨j, hj⟩ := ht.yes rfl
        have q1 := ht.at' j hj
        have q2 := hhi j hj
        refine ⟨j - 16, ?_⟩
        rw [hdif (j - 16) (by omega), show 16 + (j - 16) = j by omega]
        exact hj

theorem burst_any (s : ByteArray) (kk a pt : Int) (w : World) (hs : 6 ≤ s.size) (hs2 : s.size ≤ 400) (ha0 : -9223372036854775808 ≤ a) (ha1 : a ≤ 9223372036854775807) (hp0 : -9223372036854775808 ≤ pt) (hp1 : pt ≤ 9223372036854775807) :
    Calls Try.prog 32 #[.string s, .int .i64 kk, .int .i64 a, .int .i64 pt] w fun e w' => ∃ r : ByteArray, e = .returned (.string r) ∧ Hid (BurAns kk s r) ∧ Below w.heap.size w w' := by
  by_cases hk : kk = 0
  · exact burst_nil s kk a pt w hs hs2 ha0 ha1 hp0 hp1 hk
  · exact burst_one s kk a pt w hs hs2 ha0 ha1 hp0 hp1 hk

theorem BurAns.size {kk : Int} {s r : ByteArray} (h : BurAns kk s r) : r.size = s.size := by
  obtain ⟨lo, ht, _⟩ := h
  have := ht.len
  simpa using this

set_option maxHeartbeats 4000000 in
theorem burst_walk (h : ByteArray) (a : Option Addr) (l : List ByteArray) (cap : Nat) (c t : Bool) (k : Int) (p m : Int) (w : World)
    (hh : h.size ≤ 140737488352000) (hl : ∀ s ∈ l, s.size ≤ 140737488352000) (hn : l.length ≤ 9000000000000) (ht : Texts w a l) (ha0 : -9223372036854775808 ≤ p) (ha1 : p ≤ 9223372036854775807) (hm0 : -9223372036854775808 ≤ m) (hm1 : m ≤ 9223372036854775807) :
    Calls Try.prog 10 #[.agg #[.string h, .slice a l.length cap, .bool c, .bool t], .int .i64 k, .int .i64 p, .int .i64 m] w fun e w' => e = .returned (.bool true) ∧ Below w.heap.size w w' := by
  have HB0 : Hid (Below w.heap.size w (w.alloc (.cells #[.string h, .slice a l.length cap, .bool c, .bool t] 30))) := (Below.refl _ _).alloc (Nat.le_refl _) _
  have HBK := hide (BlkAt.new w (.string h) (.slice a l.length cap) (.bool c) (.bool t))
  have HT := hide (ht.below HB0.out)
  have HL := hide hl
  clear hl ht
  by_cases hE : Blk.encE h.data.toList (datas l) c k = 0
  · have HV : Hid (decide (Blk.encE h.data.toList (datas l) c k = 0) = true) := by simp [Hid, hE]
    have HE := hide hE
    have hk : k = 0 ∨ k = 1 := (encE_good t [255] hE).kc
    have HK := hide hk
    clear hE hk
    go_enter Try.func10, Try.ntmps10
    go_wp2_with (first | (go_at_call 28; refine (valid_any h a l cap c t k _ hh HL.out (by omega) HT.out).mono ?_; rintro e w1 ⟨rfl, hb1⟩; rw [HV.out]; have hB1 := HBK.out.below hb1 (by simp); have d0 := hB1.cell0; have d1 := hB1.cell1; have d2 := hB1.cell2; have d3 := hB1.cell3; have HB1 := hide hB1; clear hB1) | (go_at_call 30; refine (coded_any h a l cap c t k _ hh HL.out (by omega) (HT.out.below hb1) HE.out).mono ?_; rintro e w2 ⟨r, rfl, HR, hr1, hr2, hb2⟩))
    have HG : Hid (Prs.Good k (Prs.restL r.data.toList) h.data.toList (datas l) c t [255]) := by
      have g := encE_good t [255] HE.out
      have e : [22, 22] ++ Blk.body h.data.toList (datas l) c t k ++ [255] = List.replicate 0 22 ++ (22 :: 22 :: (Blk.body h.data.toList (datas l) c t k ++ [255])) := by simp
      rw [HR.out.data, e, restL_syns 0 _ (good_begins g).2]
      exact g
    have HB2 := hide (HB1.out.below hb2 (lt_of_block HB1.out))
    have HW2 := hide (below_step (below_step HB0.out hb1) hb2)
    have HT2 := hide ((HT.out.below hb1).below hb2)
    clear d0 d1 d2 d3 HB1 hb1 hb2 HBK HB0 HT
    refine (read_any r k _ (by omega) HK.out).mono ?_
    rintro e w4 ⟨A, x, rfl, hA, hat, hb4⟩
    obtain rfl := reads_data hA HG.out
    obtain ⟨hb, v, lb, rfl, e1, e2, hS⟩ := hat
    obtain rfl := str_inj e1
    obtain rfl := datas_inj e2
    obtain ⟨a2, cap2, rfl, htx⟩ := hS.texts
    have hB4 := HB2.out.below hb4 (lt_of_block HB2.out)
    have k0 := hB4.cell0
    have k1 := hB4.cell1
    have k2 := hB4.cell2
    have k3 := hB4.cell3
    have HT4 := hide (HT2.out.below hb4)
    have HX4 := hide htx
    have HW4 := hide (below_step HW2.out hb4)
    have hlt4 := lt_of_block hB4
    clear hb4 hS hA htx hB4
    go_wp2_with fail
    have hb5 : Below w4.heap.size w4 (w4.alloc (.cells #[.int .i64 2, .string hb, .slice a2 lb.length cap2, .bool c, .bool t] 36)) := (Below.refl _ _).alloc (Nat.le_refl _) _
    refine (same_any hb a a2 lb cap cap2 c t _ hn (HT4.out.below hb5) (HX4.out.below hb5)).mono ?_
    rintro e w6 ⟨rfl, hb6⟩
    have HW6 := hide (below_step (below_step HW4.out hb5) hb6)
    clear hb5 hb6 k0 k1 k2 k3
    go_wp2_with fail
    refine (burst_any r k p m _ hr1 hr2 ha0 ha1 hm0 hm1).mono ?_
    rintro e w7 ⟨u, rfl, HU, hb7⟩
    have hu := HU.out.size
    have HW7 := hide (below_step HW6.out hb7)
    clear hb7
    go_wp2_with fail
    refine (read_any u k _ (by omega) HK.out).mono ?_
    rintro e w8 ⟨A, x, rfl, hA, hat, hb8⟩
    obtain ⟨n, rfl, hn01⟩ := burst_reads HR.out.data HE.out HU.out hA
    obtain rfl : x = zHeard n := hat
    have HW8 := hide (below_step HW7.out hb8)
    clear hb8 hA
    unfold zHeard
    go_wp2_with fail
    refine (empty_any n _ hn01).mono ?_
    rintro e w9 ⟨rfl, hb9⟩
    have hb10 : Below w8.heap.size w8 (w8.alloc (.cells #[.int .i64 n, .string ⟨#[]⟩, .slice none 0 0, .bool false, .bool false] 36)) := (Below.refl _ _).alloc (Nat.le_refl _) _
    have HW9 := hide (below_step (below_step HW8.out hb10) hb9)
    clear hb9 hb10
    go_wp2
    go_ret
    exact ⟨rfl, HW9.out⟩
  · have HV : Hid (decide (Blk.encE h.data.toList (datas l) c k = 0) = false) := by simp [Hid, hE]
    have HE := hide hE
    clear hE
    go_enter Try.func10, Try.ntmps10
    go_wp2_with (first | (go_at_call 28; refine (valid_any h a l cap c t k _ hh HL.out (by omega) HT.out).mono ?_; rintro e w1 ⟨rfl, hb1⟩; rw [HV.out]; have hB1 := HBK.out.below hb1 (by simp); have d0 := hB1.cell0; have d1 := hB1.cell1; have d2 := hB1.cell2; have d3 := hB1.cell3) | (go_at_call 29; refine (refusedK_any h a l cap c t k _ hh HL.out (by omega) (HT.out.below hb1) HE.out).mono ?_; rintro e w2 ⟨rfl, hb2⟩))
    go_ret
    exact ⟨rfl, below_step (below_step HB0.out (by assumption)) (by assumption)⟩
end Go.Proofs.Ytlbpjcphhocdkaa
