/- The document's Encode, whole: it answers as the program's does. -/
import Derived.Test.YtlbpjcphhocdkaaRefEnc3
namespace Go.Proofs.Ytlbpjcphhocdkaa
open Go.RowKit

theorem bodyOf_any (h : ByteArray) (b o : Nat) (l : List ByteArray) (cap : Nat) (c t : Bool) (k : Int) (w : World)
    (hk : k = 0 ∨ k = 1) (hh : h.size ≤ 8) (hl : ∀ i, (l.getD i ByteArray.empty).size ≤ 32) (hn : l.length ≤ 4) (hn1 : 1 ≤ l.length)
    (ht : ∀ i, i < l.length → w.cell? ⟨b, o + i, none⟩ = some (.string (l.getD i ByteArray.empty))) :
    Calls Try.prog 44 #[.agg #[.string h, .slice (some ⟨b, o, none⟩) l.length cap, .bool c, .bool t], .int .i64 k] w fun e w' => ∃ r, e = .returned (.string r) ∧ Hid (Is r (Blk.body h.data.toList (datas l) c t k)) ∧ r.size ≤ 1000 ∧ Below w.heap.size w w' := by
  cases c
  · exact bodyOf_false h b o l cap t k w hk hh hl hn hn1 ht
  · exact bodyOf_true h b o l cap t k w hk hh hl hn hn1 ht

theorem is_wrap {r : ByteArray} {l : List UInt8} (h : Is r l) : (⟨#[22, 22]⟩ ++ r ++ ⟨#[255]⟩ : ByteArray) = ⟨([22, 22] ++ l ++ [255]).toArray⟩ :=
  ((Is.mk [22, 22]).append h).append (Is.mk [255])

set_option maxHeartbeats 1000000 in
theorem refEncode_any (h : ByteArray) (a : Option Addr) (l : List ByteArray) (cap : Nat) (c t : Bool) (k : Int) (w : World)
    (hh : h.size ≤ 140737488352000) (hl : ∀ s ∈ l, s.size ≤ 140737488352000) (hn : l.length ≤ 140737488352000) (ht : Texts w a l) :
    Calls Try.prog 18 #[.agg #[.string h, .slice a l.length cap, .bool c, .bool t], .int .i64 k] w fun e w' => e = .returned (.tuple #[.string ⟨(Blk.encS h.data.toList (datas l) c t k).toArray⟩, .int .i64 (Blk.encE h.data.toList (datas l) c k)]) ∧ Below w.heap.size w w' := by
  have HBK := hide (BlkAt.new w (.string h) (.slice a l.length cap) (.bool c) (.bool t))
  have hbel0 : Below w.heap.size w (w.alloc (.cells #[.string h, .slice a l.length cap, .bool c, .bool t] 30)) := (Below.refl _ _).alloc (Nat.le_refl _) _
  have HB0 := hide hbel0
  have ht1 := ht.below hbel0
  clear hbel0
  by_cases hk : k = 0 ∨ k = 1
  · have hd : Hid (decide (k = 0 ∨ k = 1) = true) := by simp [Hid, hk]
    have HK := hide hk
    have hE : Blk.encE h.data.toList (datas l) c k = Blk.berr h.data.toList (datas l) c := by simp [Blk.encE, hk]
    clear hk
    by_cases hz : Blk.berr h.data.toList (datas l) c = 0
    · have HS : Hid (Blk.encS h.data.toList (datas l) c t k = [22, 22] ++ Blk.body h.data.toList (datas l) c t k ++ [255]) := by simp [Hid, Blk.encS, hE, hz]
      obtain ⟨g1, g2, g3, g4⟩ := Blk.berr_ok hz
      have G1 := Blk.headOk_le g1
      rw [size_list] at G1
      rw [datas_length] at g2 g3
      have G4 := hide (getD_le (Blk.parts_le g4))
      obtain ⟨b, o, rfl, hcell⟩ : ∃ b o, a = some ⟨b, o, none⟩ ∧ ∀ i, i < l.length → w.cell? ⟨b, o + i, none⟩ = some (.string (l.getD i ByteArray.empty)) := by
        rcases ht with h | h
        · subst h; simp at g2
        · exact h
      have HC := hide hcell
      clear hcell g1 g4 ht
      rw [HS.out, hE, hz]
      have HZ := hide hz
      clear hE hz HS
      have HTX := hide ht1
      have HLL := hide hl
      clear ht1 hl
      go_enter Try.func18, Try.ntmps18
      go_wp2_with (first | (go_at_call 42; refine (checked_any k _).mono ?_; rintro e w1 ⟨rfl, rfl⟩; rw [hd.out]) | (go_at_call 43; refine (refused_any h _ l cap c t _ hh HLL.out hn HTX.out).mono ?_; rintro e w2 ⟨rfl, hb2⟩; rw [HZ.out]; have f0 := (HBK.out.below hb2 (by simp)).cell0; have f1 := (HBK.out.below hb2 (by simp)).cell1; have f2 := (HBK.out.below hb2 (by simp)).cell2; have f3 := (HBK.out.below hb2 (by simp)).cell3))
      refine (bodyOf_any h b o l cap c t k _ HK.out G1 G4.out (by omega) (by omega) ?_).mono ?_
      · intro i hi
        exact cell_later (below_step HB0.out hb2) (HC.out i hi)
      rintro e w3 ⟨r, rfl, HR, hr, hb3⟩
      go_wp2
      go_ret2
      refine ⟨?_, below_step (below_step HB0.out hb2) hb3⟩
      show Ending.returned (Value.tuple #[.string (⟨#[22, 22]⟩ ++ r ++ ⟨#[255]⟩), .int .i64 0]) = _
      rw [is_wrap HR.out]
      simp
    · have HS : Hid (Blk.encS h.data.toList (datas l) c t k = []) := by simp [Hid, Blk.encS, hE, hz]
      rw [HS.out, hE]
      generalize hbz : Blk.berr h.data.toList (datas l) c = z at *
      have HZ := hide hbz
      have hnz : (z != 0) = true := by simp [hz]
      have HTX := hide ht1
      have HLL := hide hl
      clear ht1 hl ht hE hbz hz HS
      go_enter Try.func18, Try.ntmps18
      go_wp2_with (first | (go_at_call 42; refine (checked_any k _).mono ?_; rintro e w1 ⟨rfl, rfl⟩; rw [hd.out]) | (go_at_call 43; refine (refused_any h _ l cap c t _ hh HLL.out hn HTX.out).mono ?_; rintro e w2 ⟨rfl, hb2⟩; rw [HZ.out]))
      go_ret2
      exact ⟨rfl, below_step HB0.out hb2⟩
  · have hd : Hid (decide (k = 0 ∨ k = 1) = false) := by simp [Hid, hk]
    have hE : Blk.encE h.data.toList (datas l) c k = 1 := by simp [Blk.encE, hk]
    have hS : Blk.encS h.data.toList (datas l) c t k = [] := by simp [Blk.encS, hE]
    rw [hS, hE]
    clear hk hE hS hl ht ht1
    go_enter Try.func18, Try.ntmps18
    go_wp2_with (first | (go_at_call 42; refine (checked_any k _).mono ?_; rintro e w1 ⟨rfl, rfl⟩; rw [hd.out]))
    go_ret2
    exact ⟨rfl, HB0.out⟩

end Go.Proofs.Ytlbpjcphhocdkaa
