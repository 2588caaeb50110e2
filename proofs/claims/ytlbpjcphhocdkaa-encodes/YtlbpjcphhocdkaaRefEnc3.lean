/- The document's Encode, whole: the body. -/
import Derived.Test.YtlbpjcphhocdkaaRefEnc2
namespace Go.Proofs.Ytlbpjcphhocdkaa
open Go.RowKit

theorem endL_f (t : Bool) (n i : Nat) : Blk.endL false t n i = [Blk.endC t n i] := rfl
theorem endL_t (t : Bool) (n i : Nat) : Blk.endL true t n i = [16, Blk.endC t n i] := rfl
theorem is_x0 {xs r2 : ByteArray} {a b : List UInt8} {u : UInt8} (h1 : Is xs a) (h2 : Is r2 b) : Is (xs ++ r2 ++ ⟨#[]⟩ ++ ⟨#[u]⟩) (a ++ (b ++ [u])) := by
  have := ((h1.append h2).append (Is.mk [])).append (Is.mk [u])
  simpa [List.append_assoc] using this
theorem is_x1 {xs r2 : ByteArray} {a b : List UInt8} {u : UInt8} (h1 : Is xs a) (h2 : Is r2 b) : Is (xs ++ r2 ++ ⟨#[16]⟩ ++ ⟨#[u]⟩) (a ++ (b ++ [16, u])) := by
  have := ((h1.append h2).append (Is.mk [16])).append (Is.mk [u])
  simpa [List.append_assoc] using this

theorem open_cases (h : ByteArray) (c : Bool) :
    (¬ 0 < (h.size : Int) ∧ decide (0 < h.size) = false ∧ c = false ∧ Hid (Is (⟨#[]⟩ ++ ⟨#[]⟩ ++ ⟨#[2]⟩) (Blk.openL h.data.toList c))) ∨
    (¬ 0 < (h.size : Int) ∧ decide (0 < h.size) = false ∧ c = true ∧ Hid (Is (⟨#[]⟩ ++ ⟨#[16]⟩ ++ ⟨#[2]⟩) (Blk.openL h.data.toList c))) ∨
    (0 < (h.size : Int) ∧ decide (0 < h.size) = true ∧ c = false ∧ Hid (Is (⟨#[1]⟩ ++ h ++ ⟨#[]⟩ ++ ⟨#[2]⟩) (Blk.openL h.data.toList c))) ∨
    (0 < (h.size : Int) ∧ decide (0 < h.size) = true ∧ c = true ∧ Hid (Is (⟨#[1]⟩ ++ h ++ ⟨#[16]⟩ ++ ⟨#[2]⟩) (Blk.openL h.data.toList c))) := by
  by_cases he : h.size = 0
  · have hn : h.data.toList = [] := List.eq_nil_of_length_eq_zero (by rw [size_list]; exact he)
    cases c
    · exact Or.inl ⟨by omega, by simp [he], rfl, by rw [Hid, hn]; rfl⟩
    · exact Or.inr (Or.inl ⟨by omega, by simp [he], rfl, by rw [Hid, hn]; rfl⟩)
  · have hn : ¬ h.data.toList = [] := fun e => he (by rw [← size_list, e]; rfl)
    cases c
    · refine Or.inr (Or.inr (Or.inl ⟨by omega, by simp; omega, rfl, ?_⟩))
      have := (((Is.mk [1]).append (Is.self h)).append (Is.mk [])).append (Is.mk [2])
      simpa [Hid, Blk.openL, hn] using this
    · refine Or.inr (Or.inr (Or.inr ⟨by omega, by simp; omega, rfl, ?_⟩))
      have := (((Is.mk [1]).append (Is.self h)).append (Is.mk [16])).append (Is.mk [2])
      simpa [Hid, Blk.openL, hn] using this

theorem endC_mid (t : Bool) (n j : Nat) (h : j + 1 < n) : Blk.endC t n j = 31 := by simp [Blk.endC, h]
theorem endC_last (n j : Nat) (h : ¬ j + 1 < n) : Blk.endC true n j = 3 := by simp [Blk.endC, h]
theorem endC_more (n j : Nat) (h : ¬ j + 1 < n) : Blk.endC false n j = 23 := by simp [Blk.endC, h]

theorem curN_of {h : List UInt8} {ps : List (List UInt8)} {c t : Bool} {k : Int} {j : Nat} {x : ByteArray} (hx : Is x (cur h ps c t k (j + 1))) : x.size = curN h ps c t k (j + 1) := by
  rw [hx.size]
  unfold cur curN
  rw [if_neg (by omega), if_neg (by omega)]

theorem size_f (xs st : ByteArray) (u : UInt8) : (xs ++ st ++ ⟨#[]⟩ ++ ⟨#[u]⟩).size = xs.size + st.size + 1 := by
  simp only [ByteArray.size_append]; rfl
theorem size_t (xs st : ByteArray) (u : UInt8) : (xs ++ st ++ ⟨#[16]⟩ ++ ⟨#[u]⟩).size = xs.size + st.size + 1 + 1 := by
  simp only [ByteArray.size_append]; rfl

/-- One part more, in the shapes in which the walk leaves it. -/
theorem ref_f {h : List UInt8} {ps : List (List UInt8)} {t : Bool} {k : Int} {j : Nat} {xs st r4 : ByteArray} {u : UInt8} {n : Nat}
    (hx : Is xs (cur h ps false t k j)) (hst : ps.getD j [] = st.data.toList) (hu : Blk.endC t ps.length j = u) (hn : n = curN h ps false t k j)
    (h4 : Is r4 (Crc.sumS k ((xs ++ st ++ ⟨#[]⟩ ++ ⟨#[u]⟩).extract n (xs.size + st.size + 1)).data.toList)) :
    Is (xs ++ st ++ ⟨#[]⟩ ++ ⟨#[u]⟩ ++ r4) (cur h ps false t k (j + 1)) ∧ xs.size + st.size + 1 + r4.size = curN h ps false t k (j + 1) := by
  subst hn
  have hr : Is (xs ++ st ++ ⟨#[]⟩ ++ ⟨#[u]⟩ ++ r4) (cur h ps false t k (j + 1)) :=
    ref_step (e := [u]) (is_x0 hx (by rw [hst]; exact Is.self st)) (by rw [endL_f, hu]) (by rw [size_f]; exact h4)
  exact ⟨hr, by rw [← curN_of hr, ByteArray.size_append, size_f]⟩
theorem ref_t {h : List UInt8} {ps : List (List UInt8)} {t : Bool} {k : Int} {j : Nat} {xs st r2 r4 : ByteArray} {u : UInt8} {n : Nat}
    (hx : Is xs (cur h ps true t k j)) (hst : ps.getD j [] = st.data.toList) (h2 : Is r2 (Blk.dbl st.data.toList)) (hu : Blk.endC t ps.length j = u) (hn : n = curN h ps true t k j)
    (h4 : Is r4 (Crc.sumS k ((xs ++ r2 ++ ⟨#[16]⟩ ++ ⟨#[u]⟩).extract n (xs.size + r2.size + 1 + 1)).data.toList)) :
    Is (xs ++ r2 ++ ⟨#[16]⟩ ++ ⟨#[u]⟩ ++ r4) (cur h ps true t k (j + 1)) ∧ xs.size + r2.size + 1 + 1 + r4.size = curN h ps true t k (j + 1) := by
  subst hn
  have hr : Is (xs ++ r2 ++ ⟨#[16]⟩ ++ ⟨#[u]⟩ ++ r4) (cur h ps true t k (j + 1)) :=
    ref_step (e := [16, u]) (is_x1 hx (by rw [hst]; exact h2)) (by rw [endL_t, hu]) (by rw [size_t]; exact h4)
  exact ⟨hr, by rw [← curN_of hr, ByteArray.size_append, size_t]⟩

theorem open_false (h : ByteArray) :
    (¬ 0 < (h.size : Int) ∧ decide (0 < h.size) = false ∧ Hid (Is (⟨#[]⟩ ++ ⟨#[]⟩ ++ ⟨#[2]⟩) (Blk.openL h.data.toList false))) ∨
    (0 < (h.size : Int) ∧ decide (0 < h.size) = true ∧ Hid (Is (⟨#[1]⟩ ++ h ++ ⟨#[]⟩ ++ ⟨#[2]⟩) (Blk.openL h.data.toList false))) := by
  rcases open_cases h false with ⟨a, b, c, d⟩ | ⟨a, b, c, d⟩ | ⟨a, b, c, d⟩ | ⟨a, b, c, d⟩
  all_goals first | (cases c; done) | exact Or.inl ⟨a, b, d⟩ | exact Or.inr ⟨a, b, d⟩

set_option maxHeartbeats 4000000 in
theorem bodyOf_false (h : ByteArray) (b o : Nat) (l : List ByteArray) (cap : Nat) (t : Bool) (k : Int) (w : World)
    (hk : k = 0 ∨ k = 1) (hh : h.size ≤ 8) (hl : ∀ i, (l.getD i ByteArray.empty).size ≤ 32) (hn : l.length ≤ 4) (hn1 : 1 ≤ l.length)
    (ht : ∀ i, i < l.length → w.cell? ⟨b, o + i, none⟩ = some (.string (l.getD i ByteArray.empty))) :
    Calls Try.prog 44 #[.agg #[.string h, .slice (some ⟨b, o, none⟩) l.length cap, .bool false, .bool t], .int .i64 k] w fun e w' => ∃ r, e = .returned (.string r) ∧ Hid (Is r (Blk.body h.data.toList (datas l) false t k)) ∧ r.size ≤ 1000 ∧ Below w.heap.size w w' := by
  have HBK := hide (BlkAt.new w (.string h) (.slice (some ⟨b, o, none⟩) l.length cap) (.bool false) (.bool t))
  have HB0 : Hid (Below w.heap.size w (w.alloc (.cells #[.string h, .slice (some ⟨b, o, none⟩) l.length cap, .bool false, .bool t] 30))) := (Below.refl _ _).alloc (Nat.le_refl _) _
  have HT := hide ht
  have HL := hide hl
  have HK := hide hk
  have HCL := hide (cur_length h.data.toList (datas l) false t k (by rw [size_list]; exact hh) (fun i => by rw [datas_getD, size_list]; exact hl i))
  have HFIN : Hid (cur h.data.toList (datas l) false t k l.length = Blk.body h.data.toList (datas l) false t k) := by
    unfold Hid cur Blk.body
    rw [if_neg (by omega), datas_length]
  clear ht hl hk
  rcases open_false h with ⟨hz, hz2, HO⟩ | ⟨hz, hz2, HO⟩
  all_goals
    go_enter Try.func44, Try.ntmps44
    go_wp2
    go_loopw [5, 7, 8] (fun x m i wr => ∃ (j n : Nat) (xs : ByteArray), j ≤ l.length ∧ i = .int .i64 j ∧ m = .int .i64 n ∧ x = .string xs ∧ Hid (Is xs (cur h.data.toList (datas l) false t k j)) ∧ Hid (n = curN h.data.toList (datas l) false t k j) ∧ BlkAt wr w.heap.size (.string h) (.slice (some ⟨b, o, none⟩) l.length cap) (.bool false) (.bool t) ∧ Below w.heap.size w wr) (fun _ _ i _ => l.length - (intOf i).toNat)
    case atStart => exact ⟨0, 0, _, by omega, rfl, rfl, rfl, HO, rfl, HBK.out, HB0.out⟩
    case round =>
      obtain ⟨j, n, xs, hj, rfl, rfl, rfl, HX, HN, hblk, hbel⟩ := hrel
      have f1 := hblk.cell1
      have f2 := hblk.cell2
      have f3 := hblk.cell3
      have hxs : xs.size ≤ 1000 := by rw [HX.out.size]; exact HCL.out j (by omega)
      have hnx : n ≤ xs.size := by rw [HN.out, HX.out.size]; exact curN_le _ _ _ _ _ _
      by_cases hlt : j < l.length
      · have hcl := HT.out j hlt
        have hbb := World.block_lt_of_cell? w _ hcl
        rw [← hbel.cell hbb] at hcl
        have hg := HL.out j
        have hlt' : (j : Int) < (l.length : Int) := by omega
        generalize hst : l.getD j ByteArray.empty = st at *
        have HST := hide hst
        clear hst
        by_cases hm : j + 1 < l.length
        · have HU := hide (endC_mid t l.length j hm)
          have hm' : ((j : Int) == (l.length : Int) - 1) = false := beq_eq_false_iff_ne.2 (by omega)
          go_wp2_with (first | (go_at_call 13; refine (refSum_is _ k _ ?_ HK.out).mono ?_; (simp; omega); rintro e w4 ⟨r4, rfl, HR4, hr4, hb4⟩))
          go_roundw
          case rel => have hr := ref_f HX.out (by rw [datas_getD, HST.out]) (by rw [datas_length]; exact HU.out) HN.out HR4.out; exact ⟨j + 1, xs.size + st.size + 1 + r4.size, _, by omega, by go_num, by go_num, rfl, hr.1, hr.2, hblk.below hb4 (lt_of_block hblk), below_step hbel hb4⟩
          case measure => simp [intOf]; omega
        · have hm' : ((j : Int) == (l.length : Int) - 1) = true := beq_iff_eq.2 (by omega)
          cases t
          · have HU := hide (endC_more l.length j hm)
            go_wp2_with (first | (go_at_call 13; refine (refSum_is _ k _ ?_ HK.out).mono ?_; (simp; omega); rintro e w4 ⟨r4, rfl, HR4, hr4, hb4⟩))
            go_roundw
            case rel => have hr := ref_f HX.out (by rw [datas_getD, HST.out]) (by rw [datas_length]; exact HU.out) HN.out HR4.out; exact ⟨j + 1, xs.size + st.size + 1 + r4.size, _, by omega, by go_num, by go_num, rfl, hr.1, hr.2, hblk.below hb4 (lt_of_block hblk), below_step hbel hb4⟩
            case measure => simp [intOf]; omega
          · have HU := hide (endC_last l.length j hm)
            go_wp2_with (first | (go_at_call 13; refine (refSum_is _ k _ ?_ HK.out).mono ?_; (simp; omega); rintro e w4 ⟨r4, rfl, HR4, hr4, hb4⟩))
            go_roundw
            case rel => have hr := ref_f HX.out (by rw [datas_getD, HST.out]) (by rw [datas_length]; exact HU.out) HN.out HR4.out; exact ⟨j + 1, xs.size + st.size + 1 + r4.size, _, by omega, by go_num, by go_num, rfl, hr.1, hr.2, hblk.below hb4 (lt_of_block hblk), below_step hbel hb4⟩
            case measure => simp [intOf]; omega
      · obtain rfl : j = l.length := by omega
        have hlt' : ¬ (l.length : Int) < (l.length : Int) := by omega
        go_wp2
        go_ret
        exact ⟨_, rfl, by rw [← HFIN.out]; exact HX, hxs, hbel⟩

theorem open_true (h : ByteArray) :
    (¬ 0 < (h.size : Int) ∧ decide (0 < h.size) = false ∧ Hid (Is (⟨#[]⟩ ++ ⟨#[16]⟩ ++ ⟨#[2]⟩) (Blk.openL h.data.toList true))) ∨
    (0 < (h.size : Int) ∧ decide (0 < h.size) = true ∧ Hid (Is (⟨#[1]⟩ ++ h ++ ⟨#[16]⟩ ++ ⟨#[2]⟩) (Blk.openL h.data.toList true))) := by
  rcases open_cases h true with ⟨a, b, c, d⟩ | ⟨a, b, c, d⟩ | ⟨a, b, c, d⟩ | ⟨a, b, c, d⟩
  all_goals first | (cases c; done) | exact Or.inl ⟨a, b, d⟩ | exact Or.inr ⟨a, b, d⟩

set_option maxHeartbeats 4000000 in
theorem bodyOf_true (h : ByteArray) (b o : Nat) (l : List ByteArray) (cap : Nat) (t : Bool) (k : Int) (w : World)
    (hk : k = 0 ∨ k = 1) (hh : h.size ≤ 8) (hl : ∀ i, (l.getD i ByteArray.empty).size ≤ 32) (hn : l.length ≤ 4) (hn1 : 1 ≤ l.length)
    (ht : ∀ i, i < l.length → w.cell? ⟨b, o + i, none⟩ = some (.string (l.getD i ByteArray.empty))) :
    Calls Try.prog 44 #[.agg #[.string h, .slice (some ⟨b, o, none⟩) l.length cap, .bool true, .bool t], .int .i64 k] w fun e w' => ∃ r, e = .returned (.string r) ∧ Hid (Is r (Blk.body h.data.toList (datas l) true t k)) ∧ r.size ≤ 1000 ∧ Below w.heap.size w w' := by
  have HBK := hide (BlkAt.new w (.string h) (.slice (some ⟨b, o, none⟩) l.length cap) (.bool true) (.bool t))
  have HB0 : Hid (Below w.heap.size w (w.alloc (.cells #[.string h, .slice (some ⟨b, o, none⟩) l.length cap, .bool true, .bool t] 30))) := (Below.refl _ _).alloc (Nat.le_refl _) _
  have HT := hide ht
  have HL := hide hl
  have HK := hide hk
  have HCL := hide (cur_length h.data.toList (datas l) true t k (by rw [size_list]; exact hh) (fun i => by rw [datas_getD, size_list]; exact hl i))
  have HFIN : Hid (cur h.data.toList (datas l) true t k l.length = Blk.body h.data.toList (datas l) true t k) := by
    unfold Hid cur Blk.body
    rw [if_neg (by omega), datas_length]
  clear ht hl hk
  rcases open_true h with ⟨hz, hz2, HO⟩ | ⟨hz, hz2, HO⟩
  all_goals
    go_enter Try.func44, Try.ntmps44
    go_wp2
    go_loopw [5, 7, 8] (fun x m i wr => ∃ (j n : Nat) (xs : ByteArray), j ≤ l.length ∧ i = .int .i64 j ∧ m = .int .i64 n ∧ x = .string xs ∧ Hid (Is xs (cur h.data.toList (datas l) true t k j)) ∧ Hid (n = curN h.data.toList (datas l) true t k j) ∧ BlkAt wr w.heap.size (.string h) (.slice (some ⟨b, o, none⟩) l.length cap) (.bool true) (.bool t) ∧ Below w.heap.size w wr) (fun _ _ i _ => l.length - (intOf i).toNat)
    case atStart => exact ⟨0, 0, _, by omega, rfl, rfl, rfl, HO, rfl, HBK.out, HB0.out⟩
    case round =>
      obtain ⟨j, n, xs, hj, rfl, rfl, rfl, HX, HN, hblk, hbel⟩ := hrel
      have f1 := hblk.cell1
      have f2 := hblk.cell2
      have f3 := hblk.cell3
      have hxs : xs.size ≤ 1000 := by rw [HX.out.size]; exact HCL.out j (by omega)
      have hnx : n ≤ xs.size := by rw [HN.out, HX.out.size]; exact curN_le _ _ _ _ _ _
      by_cases hlt : j < l.length
      · have hcl := HT.out j hlt
        have hbb := World.block_lt_of_cell? w _ hcl
        rw [← hbel.cell hbb] at hcl
        have hg := HL.out j
        have hlt' : (j : Int) < (l.length : Int) := by omega
        generalize hst : l.getD j ByteArray.empty = st at *
        have HST := hide hst
        clear hst
        by_cases hm : j + 1 < l.length
        · have HU := hide (endC_mid t l.length j hm)
          have hm' : ((j : Int) == (l.length : Int) - 1) = false := beq_eq_false_iff_ne.2 (by omega)
          go_wp2_with (first | (go_at_call 64; refine (doubled_any st _ hg).mono ?_; rintro e w2 ⟨r2, rfl, HR2, hr2, rfl⟩) | (go_at_call 13; refine (refSum_is _ k _ ?_ HK.out).mono ?_; (simp; omega); rintro e w4 ⟨r4, rfl, HR4, hr4, hb4⟩))
          go_roundw
          case rel => have hr := ref_t HX.out (by rw [datas_getD, HST.out]) HR2.out (by rw [datas_length]; exact HU.out) HN.out HR4.out; exact ⟨j + 1, xs.size + r2.size + 1 + 1 + r4.size, _, by omega, by go_num, by go_num, rfl, hr.1, hr.2, hblk.below hb4 (lt_of_block hblk), below_step hbel hb4⟩
          case measure => simp [intOf]; omega
        · have hm' : ((j : Int) == (l.length : Int) - 1) = true := beq_iff_eq.2 (by omega)
          cases t
          · have HU := hide (endC_more l.length j hm)
            go_wp2_with (first | (go_at_call 64; refine (doubled_any st _ hg).mono ?_; rintro e w2 ⟨r2, rfl, HR2, hr2, rfl⟩) | (go_at_call 13; refine (refSum_is _ k _ ?_ HK.out).mono ?_; (simp; omega); rintro e w4 ⟨r4, rfl, HR4, hr4, hb4⟩))
            go_roundw
            case rel => have hr := ref_t HX.out (by rw [datas_getD, HST.out]) HR2.out (by rw [datas_length]; exact HU.out) HN.out HR4.out; exact ⟨j + 1, xs.size + r2.size + 1 + 1 + r4.size, _, by omega, by go_num, by go_num, rfl, hr.1, hr.2, hblk.below hb4 (lt_of_block hblk), below_step hbel hb4⟩
            case measure => simp [intOf]; omega
          · have HU := hide (endC_last l.length j hm)
            go_wp2_with (first | (go_at_call 64; refine (doubled_any st _ hg).mono ?_; rintro e w2 ⟨r2, rfl, HR2, hr2, rfl⟩) | (go_at_call 13; refine (refSum_is _ k _ ?_ HK.out).mono ?_; (simp; omega); rintro e w4 ⟨r4, rfl, HR4, hr4, hb4⟩))
            go_roundw
            case rel => have hr := ref_t HX.out (by rw [datas_getD, HST.out]) HR2.out (by rw [datas_length]; exact HU.out) HN.out HR4.out; exact ⟨j + 1, xs.size + r2.size + 1 + 1 + r4.size, _, by omega, by go_num, by go_num, rfl, hr.1, hr.2, hblk.below hb4 (lt_of_block hblk), below_step hbel hb4⟩
            case measure => simp [intOf]; omega
      · obtain rfl : j = l.length := by omega
        have hlt' : ¬ (l.length : Int) < (l.length : Int) := by omega
        go_wp2
        go_ret
        exact ⟨_, rfl, by rw [← HFIN.out]; exact HX, hxs, hbel⟩

end Go.Proofs.Ytlbpjcphhocdkaa
