/- The program's Encode, whole. -/
import Derived.Test.YtlbpjcphhocdkaaEnc3
import Derived.Test.YtlbpjcphhocdkaaShort
import Derived.Deep.RegionHeld3
namespace Go.Proofs.Ytlbpjcphhocdkaa
open Go.RowKit

set_option maxHeartbeats 1000000 in
theorem endCharacter_any (h : ByteArray) (a : Option Addr) (n cap : Nat) (c t : Bool) (i : Nat) (w : World) (hn : n ≤ 1000000000) (_hi : i ≤ 1000000000) :
    Calls Try.prog 76 #[.agg #[.string h, .slice a n cap, .bool c, .bool t], .int .i64 i] w fun e w' => e = .returned (.int .u8 (Blk.endC t n i).toNat) ∧ Below w.heap.size w w' := by
  by_cases hlt : i + 1 < n
  · have HE : Hid (Blk.endC t n i = 31) := by simp [Hid, Blk.endC, hlt]
    have hlt' : (i : Int) < (n : Int) - 1 := by omega
    go_enter Try.func76, Try.ntmps76
    go_wp2
    go_ret
    exact ⟨by rw [HE.out]; rfl, (Below.refl _ _).alloc (Nat.le_refl _) _⟩
  · have hlt' : ¬ (i : Int) < (n : Int) - 1 := by omega
    cases t
    · have HE : Hid (Blk.endC false n i = 23) := by simp [Hid, Blk.endC, hlt]
      go_enter Try.func76, Try.ntmps76
      go_wp2
      go_ret
      exact ⟨by rw [HE.out]; rfl, (Below.refl _ _).alloc (Nat.le_refl _) _⟩
    · have HE : Hid (Blk.endC true n i = 3) := by simp [Hid, Blk.endC, hlt]
      go_enter Try.func76, Try.ntmps76
      go_wp2
      go_ret
      exact ⟨by rw [HE.out]; rfl, (Below.refl _ _).alloc (Nat.le_refl _) _⟩

theorem strOfNums_one (u : UInt8) : strOfNums [(u.toNat : Int)] = ⟨#[u]⟩ := by simp [strOfNums]
theorem strOfNums_two (u : UInt8) : strOfNums [16, (u.toNat : Int)] = ⟨#[16, u]⟩ := by simp [strOfNums]

set_option maxHeartbeats 1000000 in
theorem ending_any (h : ByteArray) (a : Option Addr) (n cap : Nat) (c t : Bool) (i : Nat) (w : World) (hn : n ≤ 1000000000) (hi : i ≤ 1000000000) :
    Calls Try.prog 62 #[.agg #[.string h, .slice a n cap, .bool c, .bool t], .int .i64 i] w fun e w' => e = .returned (.string ⟨(Blk.endL c t n i).toArray⟩) ∧ Below w.heap.size w w' := by
  have c1 := conv_lit1
  have c2 := conv_lit2
  have HBK := hide (BlkAt.new w (.string h) (.slice a n cap) (.bool c) (.bool t))
  cases c
  · have HE : Hid (Blk.endL false t n i = [Blk.endC t n i]) := by simp [Hid, Blk.endL]
    generalize hu : Blk.endC t n i = u at *
    have HU := hide hu
    clear hu
    go_enter Try.func62, Try.ntmps62
    go_wp2_with (first | (go_at_call 76; refine (endCharacter_any h a n cap false t i _ hn hi).mono ?_; rintro e w1 ⟨rfl, hb1⟩; rw [HU.out]; have d2 := (HBK.out.below hb1 (by simp)).cell2))
    go_ret
    refine ⟨by rw [HE.out]; exact congrArg (fun s => Ending.returned (Value.string s)) (strOfNums_one u), ?_⟩
    exact (((Below.refl _ _).alloc (Nat.le_refl _) _).trans (hb1.mono (by simp))).alloc (by have := hb1.size; simp at this; omega) _
  · have HE : Hid (Blk.endL true t n i = [16, Blk.endC t n i]) := by simp [Hid, Blk.endL]
    generalize hu : Blk.endC t n i = u at *
    have HU := hide hu
    clear hu
    go_enter Try.func62, Try.ntmps62
    go_wp2_with (first | (go_at_call 76; refine (endCharacter_any h a n cap true t i _ hn hi).mono ?_; rintro e w1 ⟨rfl, hb1⟩; rw [HU.out]; have d2 := (HBK.out.below hb1 (by simp)).cell2))
    go_ret
    refine ⟨by rw [HE.out]; exact congrArg (fun s => Ending.returned (Value.string s)) (strOfNums_two u), ?_⟩
    exact (((Below.refl _ _).alloc (Nat.le_refl _) _).trans (hb1.mono (by simp))).alloc (by have := hb1.size; simp at this; omega) _


theorem ba_append (a b : List UInt8) : (⟨a.toArray⟩ : ByteArray) ++ ⟨b.toArray⟩ = ⟨(a ++ b).toArray⟩ := by
  apply ByteArray.ext
  simp [ByteArray.data_append]

theorem below_drew_head {w w' : World} (h : Below w.drew.heap.size w.drew w') : Below w.heap.size w w' := ⟨h.os, h.tape, h.output, h.size, h.block⟩

/-- A string that is told by its bytes. -/
def Is (s : ByteArray) (l : List UInt8) : Prop := s = ⟨l.toArray⟩
theorem Is.mk (l : List UInt8) : Is ⟨l.toArray⟩ l := rfl
theorem Is.size {s : ByteArray} {l : List UInt8} (h : Is s l) : s.size = l.length := by subst h; rfl
theorem Is.data {s : ByteArray} {l : List UInt8} (h : Is s l) : s.data.toList = l := by subst h; rfl
theorem Is.append {s r : ByteArray} {l m : List UInt8} (h : Is s l) (k : Is r m) : Is (s ++ r) (l ++ m) := by subst h; subst k; exact ba_append l m
theorem Is.self (s : ByteArray) : Is s s.data.toList := by unfold Is; cases s; simp

theorem cov_len (h : List UInt8) (c : Bool) (j : Nat) (hh : h.length ≤ 8) : (if j = 0 then Blk.openL h c else []).length ≤ 100 := by
  have := Blk.openL_length h c
  split
  · omega
  · simp

theorem written_is (s : ByteArray) (c : Bool) (w : World) (hs : s.size ≤ 32) :
    Calls Try.prog 61 #[.string s, .bool c] w fun e w' => ∃ r, e = .returned (.string r) ∧ Hid (Is r (Blk.txt c s.data.toList)) ∧ r.size ≤ 64 ∧ Below w.heap.size w w' :=
  (written_any s c w (by omega)).mono fun e w' ⟨he, hb⟩ => ⟨_, he, Is.mk _, by rw [(Is.mk _).size]; have := Blk.txt_length c s.data.toList; rw [size_list] at this; omega, hb⟩
theorem ending_is (h : ByteArray) (a : Option Addr) (n cap : Nat) (c t : Bool) (i : Nat) (w : World) (hn : n ≤ 1000000000) (hi : i ≤ 1000000000) :
    Calls Try.prog 62 #[.agg #[.string h, .slice a n cap, .bool c, .bool t], .int .i64 i] w fun e w' => ∃ r, e = .returned (.string r) ∧ Hid (Is r (Blk.endL c t n i)) ∧ r.size ≤ 2 ∧ Below w.heap.size w w' :=
  (ending_any h a n cap c t i w hn hi).mono fun e w' ⟨he, hb⟩ => ⟨_, he, Is.mk _, by rw [(Is.mk _).size]; exact Blk.endL_length c t n i, hb⟩
theorem checkBytes_is (s : ByteArray) (c : Int) (w : World) (hs : s.size ≤ 140737488352000) (hc : c = 0 ∨ c = 1) :
    Calls Try.prog 35 #[.string s, .int .i64 c] w fun e w' => ∃ r, e = .returned (.string r) ∧ Hid (Is r (Crc.sumS c s.data.toList)) ∧ r.size ≤ 2 ∧ Below w.heap.size w w' :=
  (checkBytes_any s c w hs hc).mono fun e w' ⟨he, hb⟩ => ⟨_, he, Is.mk _, by rw [(Is.mk _).size]; exact Blk.sumS_length c _, hb⟩

theorem body_step {h : List UInt8} {ps : List (List UInt8)} {c t : Bool} {k : Int} {j : Nat} {xs ys r2 r3 r4 st : ByteArray}
    (hx : Is xs (Blk.bodyTo h ps c t k j)) (hy : Is ys (if j = 0 then Blk.openL h c else [])) (hst : ps.getD j [] = st.data.toList) (h2 : Is r2 (Blk.txt c st.data.toList))
    (h3 : Is r3 (Blk.endL c t ps.length j)) (h4 : Is r4 (Crc.sumS k (ys ++ r2 ++ r3).data.toList)) :
    Is (xs ++ (ys ++ r2 ++ r3) ++ r4) (Blk.bodyTo h ps c t k (j + 1)) := by
  have hs : Is (ys ++ r2 ++ r3) (Blk.seg h ps c t j) := by
    have := (hy.append h2).append h3
    unfold Blk.seg
    rw [hst, ← List.append_assoc]
    exact this
  rw [hs.data] at h4
  have := (hx.append hs).append h4
  unfold Blk.bodyTo
  rw [← List.append_assoc]
  exact this

set_option maxHeartbeats 2000000 in
theorem blockBody_any (h : ByteArray) (b o : Nat) (l : List ByteArray) (cap : Nat) (c t : Bool) (k : Int) (w : World)
    (hk : k = 0 ∨ k = 1) (hh : h.size ≤ 8) (hl : ∀ i, (l.getD i ByteArray.empty).size ≤ 32) (hn : l.length ≤ 4)
    (ht : ∀ i, i < l.length → w.cell? ⟨b, o + i, none⟩ = some (.string (l.getD i ByteArray.empty))) :
    Calls Try.prog 41 #[.agg #[.string h, .slice (some ⟨b, o, none⟩) l.length cap, .bool c, .bool t], .int .i64 k] w fun e w' => e = .returned (.string ⟨(Blk.body h.data.toList (datas l) c t k).toArray⟩) ∧ Below w.heap.size w w' := by
  have HBK := hide (BlkAt.new w (.string h) (.slice (some ⟨b, o, none⟩) l.length cap) (.bool c) (.bool t))
  have HT := hide ht
  have HL := hide hl
  have HK := hide hk
  have HBL := hide (Blk.bodyTo_length h.data.toList (datas l) c t k 32 (fun i => by rw [datas_getD, size_list]; exact hl i))
  rw [size_list] at HBL
  clear ht hl hk
  go_enter Try.func41, Try.ntmps41
  go_wp2_with (first | (go_at_call 60; refine (opening_any h _ _ _ c t _ (by omega)).mono ?_; rintro e w1 ⟨rfl, hb1⟩))
  go_loopw [5, 6, 7] (fun x y i wr => ∃ (j : Nat) (xs ys : ByteArray), j ≤ l.length ∧ i = .int .i64 j ∧ x = .string xs ∧ y = .string ys ∧ Hid (Is xs (Blk.bodyTo h.data.toList (datas l) c t k j)) ∧ Hid (Is ys (if j = 0 then Blk.openL h.data.toList c else [])) ∧ BlkAt wr w.heap.size (.string h) (.slice (some ⟨b, o, none⟩) l.length cap) (.bool c) (.bool t) ∧ Below w.heap.size w wr) (fun _ _ i _ => l.length - (intOf i).toNat)
  case atStart => exact ⟨0, _, _, by omega, rfl, rfl, rfl, Is.mk _, Is.mk _, HBK.out.below hb1 (by simp), below_step ((Below.refl _ _).alloc (Nat.le_refl _) _) hb1⟩
  case round =>
    obtain ⟨j, xs, ys, hj, rfl, rfl, rfl, HX, HY, hblk, hbel⟩ := hrel
    by_cases hlt : j < l.length
    · have hcl := HT.out j hlt
      have hbb := World.block_lt_of_cell? w _ hcl
      rw [← hbel.cell hbb] at hcl
      have hg := HL.out j
      have e1 := hblk.cell1
      have e2 := hblk.cell2
      have hlt' : (j : Int) < (l.length : Int) := by omega
      generalize hst : l.getD j ByteArray.empty = st at *
      have HST := hide hst
      clear hst
      have hys : ys.size ≤ 100 := by rw [HY.out.size]; exact cov_len _ c j (by rw [size_list]; exact hh)
      have hxs : xs.size ≤ 1000 := by
        rw [HX.out.size]
        have h1 := HBL.out j
        have h2 : j * (h.size + 2 * 32 + 7) ≤ 4 * (8 + 2 * 32 + 7) := Nat.mul_le_mul (by omega) (by omega)
        omega
      have hj0 : (0 : Int) ≤ (j : Int) := by omega
      have hadd : ∀ (W : World) (r : ByteArray), r.size ≤ 64 → (Op.stringOp .add ys r).run Try.prog W = .ok (.string (ys ++ r)) W := fun W r hr => run_string_add_sum W ys r (by omega)
      go_wp2_with fail
      go_region_held3 (fun w' => w'.cell? ⟨w.heap.size, 1, none⟩ = some (.slice (some ⟨b, o, none⟩) l.length cap) ∧ w'.cell? ⟨w.heap.size, 2, none⟩ = some (.bool c) ∧ w'.cell? ⟨b, o + j, none⟩ = some (.string st)) (first | go_keep | exact ⟨cell_later hb2 (by exact e1), cell_later hb2 (by exact e2), cell_later hb2 (by exact hcl)⟩)
        (first | (go_at_call 61; refine (written_is _ c _ ?_).mono ?_; (omega); rintro e w2 ⟨r2, rfl, HR2, hr2, hb2⟩))
      have hb2 := below_drew_head hb2
      have hblk2 : BlkAt w2 w.heap.size (.string h) (.slice (some ⟨b, o, none⟩) l.length cap) (.bool c) (.bool t) := hblk.below hb2 (by have := (lt_of_block hblk); exact this)
      have hbel2 : Below w.heap.size w w2 := below_step hbel hb2
      have f0 := hblk2.cell0
      have f1 := hblk2.cell1
      have f2 := hblk2.cell2
      have f3 := hblk2.cell3
      clear hcl e1 e2 hadd hb2 hblk hbel
      go_wp2_with (first | (go_at_call 62; refine (ending_is h _ _ cap c t j _ (by omega) (by omega)).mono ?_; rintro e w3 ⟨r3, rfl, HR3, hr3, hb3⟩) | (go_at_call 35; refine (checkBytes_is _ k _ ?_ HK.out).mono ?_; (simp; omega); rintro e w4 ⟨r4, rfl, HR4, hr4, hb4⟩))
      go_roundw
      case rel => exact ⟨j + 1, _, _, by omega, by go_num, rfl, rfl, body_step HX.out HY.out (by rw [datas_getD, HST.out]) HR2.out (by rw [datas_length]; exact HR3.out) HR4.out, rfl, (hblk2.below hb3 (lt_of_block hblk2)).below hb4 (lt_of_block (hblk2.below hb3 (lt_of_block hblk2))), below_step (below_step hbel2 hb3) hb4⟩
      case measure => simp [intOf]; omega
    · obtain rfl : j = l.length := by omega
      have e1 := hblk.cell1
      have hlt' : ¬ (l.length : Int) < (l.length : Int) := by omega
      go_wp2
      go_ret
      exact ⟨by rw [HX.out]; unfold Blk.body; rw [datas_length]; rfl, hbel⟩

theorem getD_le {l : List ByteArray} {n : Nat} (h : ∀ i, ((datas l).getD i []).length ≤ n) (i : Nat) : (l.getD i ByteArray.empty).size ≤ n := by
  have := h i
  rw [datas_getD, size_list] at this
  exact this

set_option maxHeartbeats 1000000 in
theorem encode_any (h : ByteArray) (a : Option Addr) (l : List ByteArray) (cap : Nat) (c t : Bool) (k : Int) (w : World)
    (hh : h.size ≤ 140737488352000) (hl : ∀ s ∈ l, s.size ≤ 140737488352000) (hn : l.length ≤ 140737488352000) (ht : Texts w a l) :
    Calls Try.prog 17 #[.agg #[.string h, .slice a l.length cap, .bool c, .bool t], .int .i64 k] w fun e w' => e = .returned (.tuple #[.string ⟨(Blk.encS h.data.toList (datas l) c t k).toArray⟩, .int .i64 (Blk.encE h.data.toList (datas l) c k)]) ∧ Below w.heap.size w w' := by
  have HBK := hide (BlkAt.new w (.string h) (.slice a l.length cap) (.bool c) (.bool t))
  have hbel0 : Below w.heap.size w (w.alloc (.cells #[.string h, .slice a l.length cap, .bool c, .bool t] 30)) := (Below.refl _ _).alloc (Nat.le_refl _) _
  have HB0 := hide hbel0
  have ht1 := ht.below hbel0
  clear hbel0
  by_cases hk : k = 0 ∨ k = 1
  · have hd : Hid (decide (k = 0 ∨ k = 1) = true) := by simp [Hid, hk]
    have HK := hide hk
    have hE : Blk.encE h.data.toList (datas l) c k = Blk.berr h.data.toList (datas l) c := by simp [Blk.encE, hk]
    clear hk
    by_cases hz : Blk.berr h.data.toList (datas l) c = 0
    · have HS : Hid (Blk.encS h.data.toList (datas l) c t k = [22, 22] ++ Blk.body h.data.toList (datas l) c t k ++ [255]) := by simp [Hid, Blk.encS, hE, hz]
      obtain ⟨g1, g2, g3, g4⟩ := Blk.berr_ok hz
      have G1 := Blk.headOk_le g1
      rw [size_list] at G1
      rw [datas_length] at g2 g3
      have G4 := hide (getD_le (Blk.parts_le g4))
      have HBL := hide (Blk.bodyTo_length h.data.toList (datas l) c t k 32 (Blk.parts_le g4) (datas l).length)
      rw [datas_length, size_list] at HBL
      obtain ⟨b, o, rfl, hcell⟩ : ∃ b o, a = some ⟨b, o, none⟩ ∧ ∀ i, i < l.length → w.cell? ⟨b, o + i, none⟩ = some (.string (l.getD i ByteArray.empty)) := by
        rcases ht with h | h
        · subst h; simp at g2
        · exact h
      have HC := hide hcell
      clear hcell g1 g4 ht
      rw [HS.out, hE, hz]
      have HZ := hide hz
      clear hE hz HS
      have HTX := hide ht1
      have HLL := hide hl
      clear ht1 hl
      go_enter Try.func17, Try.ntmps17
      go_wp2_with (first | (go_at_call 34; refine (isCheck_any k _).mono ?_; rintro e w1 ⟨rfl, rfl⟩; rw [hd.out]) | (go_at_call 40; refine (blockError_any h _ l cap c t _ hh HLL.out hn HTX.out).mono ?_; rintro e w2 ⟨rfl, hb2⟩; rw [HZ.out]; have f0 := (HBK.out.below hb2 (by simp)).cell0; have f1 := (HBK.out.below hb2 (by simp)).cell1; have f2 := (HBK.out.below hb2 (by simp)).cell2; have f3 := (HBK.out.below hb2 (by simp)).cell3))
      refine (blockBody_any h b o l cap c t k _ HK.out G1 G4.out (by omega) ?_).mono ?_
      · intro i hi
        exact cell_later (below_step HB0.out hb2) (HC.out i hi)
      rintro e w3 ⟨rfl, hb3⟩
      go_wp2_with (first | (go_at_call 38; refine (transmission_any _ _ ?_).mono ?_; (have h1 := HBL.out; have h2 : l.length * (h.size + 2 * 32 + 7) ≤ 4 * (8 + 2 * 32 + 7) := Nat.mul_le_mul (by omega) (by omega); rw [(Is.mk _).size]; unfold Blk.body; rw [datas_length]; omega); rintro e w4 ⟨rfl, hb4⟩))
      go_ret2
      exact ⟨rfl, below_step (below_step (below_step HB0.out hb2) hb3) hb4⟩
    · have HS : Hid (Blk.encS h.data.toList (datas l) c t k = []) := by simp [Hid, Blk.encS, hE, hz]
      rw [HS.out, hE]
      generalize hbz : Blk.berr h.data.toList (datas l) c = z at *
      have HZ := hide hbz
      have hnz : (z != 0) = true := by simp [hz]
      have HTX := hide ht1
      have HLL := hide hl
      clear ht1 hl ht hE hbz hz HS
      go_enter Try.func17, Try.ntmps17
      go_wp2_with (first | (go_at_call 34; refine (isCheck_any k _).mono ?_; rintro e w1 ⟨rfl, rfl⟩; rw [hd.out]) | (go_at_call 40; refine (blockError_any h _ l cap c t _ hh HLL.out hn HTX.out).mono ?_; rintro e w2 ⟨rfl, hb2⟩; rw [HZ.out]))
      go_ret2
      exact ⟨rfl, below_step HB0.out hb2⟩
  · have hd : Hid (decide (k = 0 ∨ k = 1) = false) := by simp [Hid, hk]
    have hE : Blk.encE h.data.toList (datas l) c k = 1 := by simp [Blk.encE, hk]
    have hS : Blk.encS h.data.toList (datas l) c t k = [] := by simp [Blk.encS, hE]
    rw [hS, hE]
    clear hk hE hS hl ht ht1
    go_enter Try.func17, Try.ntmps17
    go_wp2_with (first | (go_at_call 34; refine (isCheck_any k _).mono ?_; rintro e w1 ⟨rfl, rfl⟩; rw [hd.out]))
    go_ret2
    exact ⟨rfl, HB0.out⟩

end Go.Proofs.Ytlbpjcphhocdkaa
