/- The program's functions beneath Encode: how a block is written. -/
import Derived.Test.YtlbpjcphhocdkaaEnc2
namespace Go.Proofs.Ytlbpjcphhocdkaa
open Go.RowKit

theorem txt_snoc_two (l : List UInt8) (u : UInt8) (h : u.toNat = 16) : Blk.txt true (l ++ [u]) = Blk.txt true l ++ [16] ++ [u] := by
  have e : u = 16 := UInt8.toNat_inj.1 h
  subst e
  simp [Blk.txt, Blk.dbl_snoc]
theorem txt_snoc_one (l : List UInt8) (u : UInt8) (h : ¬ u.toNat = 16) : Blk.txt true (l ++ [u]) = Blk.txt true l ++ [u] := by simp [Blk.txt, Blk.dbl_snoc, h]
theorem txt_snoc_no (l : List UInt8) (u : UInt8) : Blk.txt false (l ++ [u]) = Blk.txt false l ++ [u] := by simp [Blk.txt]

set_option maxHeartbeats 1000000 in
theorem written_any (s : ByteArray) (c : Bool) (w : World) (hs : s.size ≤ 1000000000) :
    Calls Try.prog 61 #[.string s, .bool c] w fun e w' => e = .returned (.string ⟨(Blk.txt c s.data.toList).toArray⟩) ∧ Below w.heap.size w w' := by
  go_enter Try.func61, Try.ntmps61
  go_wp2
  go_loopw [5, 6] (fun v i wr => ∃ k : Nat, k ≤ s.size ∧ i = .int .i64 k ∧ OwnB wr w.heap.size v (Blk.txt c (s.data.toList.take k)) ∧ Below w.heap.size w wr) (fun _ i _ => s.size - (intOf i).toNat)
  case atStart => exact ⟨0, by omega, rfl, by cases c <;> exact ownB_lit w w.heap.size #[] [] rfl (Nat.le_refl _) (by decide), (Below.refl _ _).alloc (Nat.le_refl _) _⟩
  case round =>
    obtain ⟨k, hk, rfl, hown, hbel⟩ := hrel
    have hB := hbel.size
    by_cases hlt : k < s.size
    · have HT := hide (take_snoc s k hlt)
      have hlen := Blk.txt_length c (s.data.toList.take k)
      have htl : (s.data.toList.take k).length ≤ k := List.length_take_le _ _
      have HLen : Hid ((Blk.txt c (s.data.toList.take k)).length ≤ 2000000000) := by unfold Hid; omega
      clear hlen htl
      cases c
      · have HS := hide (txt_snoc_no (s.data.toList.take k) s[k])
        go_wp2_with (first | (at_builtin; refine app_one _ s[k] _ rfl rfl (.tmp 24) (.tmp 28) rfl w.heap.size _ _ _ 1 rfl rfl rfl hown (by have := HLen.out; omega) w hbel hB ?_; intro v1 W1 hown1 hbel1 hB1))
        go_roundw
        case rel => exact ⟨k + 1, by omega, by go_num, by rw [HT.out, HS.out]; assumption, by assumption⟩
        case measure => simp [intOf]; omega
      · by_cases h16 : s[k].toNat = 16
        · have HS := hide (txt_snoc_two (s.data.toList.take k) s[k] h16)
          have hd : ((s[k].toNat : Int) == 16) = true := by simp [h16]
          clear h16
          go_wp2_with (first | (at_builtin; refine app_one _ 16 16 (by rfl) rfl (.tmp 21) (.tmp 22) rfl w.heap.size _ _ _ 1 rfl rfl rfl hown (by have := HLen.out; omega) w hbel hB ?_; intro v1 W1 hown1 hbel1 hB1) | (at_builtin; refine app_one _ s[k] _ rfl rfl (.tmp 24) (.tmp 28) rfl w.heap.size _ _ _ 1 rfl rfl rfl hown1 (by have := HLen.out; simp; omega) w hbel1 hB1 ?_; intro v2 W2 hown2 hbel2 hB2))
          go_roundw
          case rel => exact ⟨k + 1, by omega, by go_num, by rw [HT.out, HS.out]; assumption, by assumption⟩
          case measure => simp [intOf]; omega
        · have HS := hide (txt_snoc_one (s.data.toList.take k) s[k] h16)
          have hd : ((s[k].toNat : Int) == 16) = false := by simp; omega
          clear h16
          go_wp2_with (first | (at_builtin; refine app_one _ s[k] _ rfl rfl (.tmp 24) (.tmp 28) rfl w.heap.size _ _ _ 1 rfl rfl rfl hown (by have := HLen.out; omega) w hbel hB ?_; intro v1 W1 hown1 hbel1 hB1))
          go_roundw
          case rel => exact ⟨k + 1, by omega, by go_num, by rw [HT.out, HS.out]; assumption, by assumption⟩
          case measure => simp [intOf]; omega
    · have HT : Hid (s.data.toList.take k = s.data.toList) := List.take_of_length_le (by simp; omega)
      rw [HT.out] at hown
      have cv := conv_own _ _ _ _ hown
      go_wp2
      go_ret
      exact ⟨rfl, hbel⟩

theorem ownB_lit_at (w : World) (B g : Nat) (hg : g = w.heap.size) (cs : Array Value) (l : List UInt8) (hc : cs.toList = bcells l) (hB : B ≤ w.heap.size) (hl : l.length ≤ 1000) :
    OwnB (w.alloc (.cells cs 5)) B (.slice (some ⟨g, 0, none⟩) l.length l.length) l := by
  subst hg; exact ownB_lit w B cs l hc hB hl

theorem openL_ff (h : List UInt8) (hn : h = []) : Blk.openL h false = [] ++ [2] := by simp [Blk.openL, hn]
theorem openL_ft (h : List UInt8) (hn : h = []) : Blk.openL h true = [] ++ [16] ++ [2] := by simp [Blk.openL, hn]
theorem openL_tf (h : List UInt8) (hn : ¬ h = []) : Blk.openL h false = [] ++ [1] ++ h ++ [2] := by simp [Blk.openL, hn]
theorem openL_tt (h : List UInt8) (hn : ¬ h = []) : Blk.openL h true = [] ++ [1] ++ h ++ [16] ++ [2] := by simp [Blk.openL, hn]

set_option maxHeartbeats 1000000 in
theorem opening_any (h : ByteArray) (a : Option Addr) (n cap : Nat) (c t : Bool) (w : World) (hh : h.size ≤ 140737488352000) :
    Calls Try.prog 60 #[.agg #[.string h, .slice a n cap, .bool c, .bool t]] w fun e w' => e = .returned (.string ⟨(Blk.openL h.data.toList c).toArray⟩) ∧ Below w.heap.size w w' := by
  have hblk := BlkAt.new w (.string h) (.slice a n cap) (.bool c) (.bool t)
  have hl := ownB_lit_at (w.alloc (.cells #[.string h, .slice a n cap, .bool c, .bool t] 30)) (w.heap.size + 1) (w.heap.size + 1) (by simp) #[] [] rfl (by simp) (by decide)
  have hb0 : Below (w.heap.size + 1) (w.alloc (.cells #[.string h, .slice a n cap, .bool c, .bool t] 30)) ((w.alloc (.cells #[.string h, .slice a n cap, .bool c, .bool t] 30)).alloc (.cells #[] 5)) := (Below.refl _ _).alloc (by simp) _
  have fin : ∀ W, Below (w.heap.size + 1) (w.alloc (.cells #[.string h, .slice a n cap, .bool c, .bool t] 30)) W → Below w.heap.size w W := fun W hW => ((Below.refl _ _).alloc (Nat.le_refl _) _).trans (hW.mono (by omega))
  have FIN := hide fin
  have HBK := hide hblk
  clear fin hblk
  have hsz := size_list h
  have HSZ := hide hsz
  clear hsz
  by_cases hn : h.data.toList = []
  · have hE : h.toList.isEmpty = true := by rw [ByteArray.toList_eq]; simp [hn]
    cases c
    · have HO := hide (openL_ff _ hn)
      clear hn
      go_enter Try.func60, Try.ntmps60
      go_wp2_with (first | (at_builtin; refine app_one _ 2 2 (by rfl) rfl (.tmp 20) (.tmp 21) rfl (w.heap.size + 1) _ _ _ 1 rfl rfl (by simp) hl (by simp) _ hb0 (by simp) ?_; intro v1 W1 hown1 hbel1 hB1; have cv := conv_own _ _ _ _ hown1))
      go_ret
      exact ⟨by rw [HO.out]; rfl, FIN.out _ (by assumption)⟩
    · have HO := hide (openL_ft _ hn)
      clear hn
      go_enter Try.func60, Try.ntmps60
      go_wp2_with (first | (at_builtin; refine app_one _ 16 16 (by rfl) rfl (.tmp 17) (.tmp 18) rfl (w.heap.size + 1) _ _ _ 1 rfl rfl (by simp) hl (by simp) _ hb0 (by simp) ?_; intro v1 W1 hown1 hbel1 hB1) | (at_builtin; refine app_one _ 2 2 (by rfl) rfl (.tmp 20) (.tmp 21) rfl (w.heap.size + 1) _ _ _ 1 rfl rfl rfl hown1 (by simp) _ hbel1 hB1 ?_; intro v2 W2 hown2 hbel2 hB2; have cv := conv_own _ _ _ _ hown2))
      go_ret
      exact ⟨by rw [HO.out]; rfl, FIN.out _ (by assumption)⟩
  · have hE : h.toList.isEmpty = false := by rw [ByteArray.toList_eq]; simpa using hn
    cases c
    · have HO := hide (openL_tf _ hn)
      clear hn
      go_enter Try.func60, Try.ntmps60
      go_wp2_with (first | (at_builtin; refine app_one _ 1 1 (by rfl) rfl (.tmp 8) (.tmp 9) rfl (w.heap.size + 1) _ _ _ 1 rfl rfl (by simp) hl (by simp) _ hb0 (by simp) ?_; intro v1 W1 hown1 hbel1 hB1; have d0 := (HBK.out.below hbel1 (by omega)).cell0) | (at_builtin; refine app_str _ rfl (.tmp 11) (.tmp 13) rfl (w.heap.size + 1) _ _ h rfl rfl hown1 (by simp; omega) _ hbel1 hB1 ?_; intro v2 W2 hown2 hbel2 hB2; have d2 := (HBK.out.below hbel2 (by omega)).cell2) | (at_builtin; refine app_one _ 2 2 (by rfl) rfl (.tmp 20) (.tmp 21) rfl (w.heap.size + 1) _ _ _ 1 rfl rfl rfl hown2 (by simp [HSZ.out]; omega) _ hbel2 hB2 ?_; intro v3 W3 hown3 hbel3 hB3; have cv := conv_own _ _ _ _ hown3))
      go_ret
      exact ⟨by rw [HO.out]; rfl, FIN.out _ (by assumption)⟩
    · have HO := hide (openL_tt _ hn)
      clear hn
      go_enter Try.func60, Try.ntmps60
      go_wp2_with (first | (at_builtin; refine app_one _ 1 1 (by rfl) rfl (.tmp 8) (.tmp 9) rfl (w.heap.size + 1) _ _ _ 1 rfl rfl (by simp) hl (by simp) _ hb0 (by simp) ?_; intro v1 W1 hown1 hbel1 hB1; have d0 := (HBK.out.below hbel1 (by omega)).cell0) | (at_builtin; refine app_str _ rfl (.tmp 11) (.tmp 13) rfl (w.heap.size + 1) _ _ h rfl rfl hown1 (by simp; omega) _ hbel1 hB1 ?_; intro v2 W2 hown2 hbel2 hB2; have d2 := (HBK.out.below hbel2 (by omega)).cell2) | (at_builtin; refine app_one _ 16 16 (by rfl) rfl (.tmp 17) (.tmp 18) rfl (w.heap.size + 1) _ _ _ 1 rfl rfl rfl hown2 (by simp [HSZ.out]; omega) _ hbel2 hB2 ?_; intro v3 W3 hown3 hbel3 hB3) | (at_builtin; refine app_one _ 2 2 (by rfl) rfl (.tmp 20) (.tmp 21) rfl (w.heap.size + 1) _ _ _ 1 rfl rfl rfl hown3 (by simp [HSZ.out]; omega) _ hbel3 hB3 ?_; intro v4 W4 hown4 hbel4 hB4; have cv := conv_own _ _ _ _ hown4))
      go_ret
      exact ⟨by rw [HO.out]; simp, FIN.out _ (by assumption)⟩

end Go.Proofs.Ytlbpjcphhocdkaa
