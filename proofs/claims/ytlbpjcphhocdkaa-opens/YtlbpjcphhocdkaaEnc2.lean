/- The program's functions beneath Encode: the error of a block. -/
import Derived.Test.YtlbpjcphhocdkaaEnc
import Derived.WalkSmall
namespace Go.Proofs.Ytlbpjcphhocdkaa
open Go.RowKit

/-- The list at the address a holds the texts l. -/
def Texts (w : World) (a : Option Addr) (l : List ByteArray) : Prop :=
  l = [] ∨ ∃ b o, a = some ⟨b, o, none⟩ ∧ ∀ i, i < l.length → w.cell? ⟨b, o + i, none⟩ = some (.string (l.getD i ByteArray.empty))

theorem Texts.below {w w' : World} {a : Option Addr} {l : List ByteArray} (h : Texts w a l) (hb : Below w.heap.size w w') : Texts w' a l := by
  rcases h with h | ⟨b, o, ha, h⟩
  · exact Or.inl h
  · refine Or.inr ⟨b, o, ha, fun i hi => ?_⟩
    have := h i hi
    rw [hb.cell (World.block_lt_of_cell? w _ this)]
    exact this

/-- Block g holds a block's four cells. -/
def BlkAt (w : World) (g : Nat) (h v c t : Value) : Prop := w.heap[g]? = some (.cells #[h, v, c, t] 30 (0, 0))
theorem BlkAt.cell0 {w : World} {g : Nat} {h v c t : Value} (k : BlkAt w g h v c t) : w.cell? ⟨g, 0, none⟩ = some h := by unfold BlkAt at k; simp [World.cell?, k]
theorem BlkAt.cell1 {w : World} {g : Nat} {h v c t : Value} (k : BlkAt w g h v c t) : w.cell? ⟨g, 1, none⟩ = some v := by unfold BlkAt at k; simp [World.cell?, k]
theorem BlkAt.cell2 {w : World} {g : Nat} {h v c t : Value} (k : BlkAt w g h v c t) : w.cell? ⟨g, 2, none⟩ = some c := by unfold BlkAt at k; simp [World.cell?, k]
theorem BlkAt.cell3 {w : World} {g : Nat} {h v c t : Value} (k : BlkAt w g h v c t) : w.cell? ⟨g, 3, none⟩ = some t := by unfold BlkAt at k; simp [World.cell?, k]
theorem BlkAt.new (w : World) (h v c t : Value) : BlkAt (w.alloc (.cells #[h, v, c, t] 30)) w.heap.size h v c t := heap_alloc_new w _
theorem BlkAt.below {w w' : World} {g B : Nat} {h v c t : Value} (k : BlkAt w g h v c t) (hb : Below B w w') (hg : g < B) : BlkAt w' g h v c t := (hb.block g hg).trans k

def datas (l : List ByteArray) : List (List UInt8) := l.map fun s => s.data.toList
theorem datas_length (l : List ByteArray) : (datas l).length = l.length := by simp [datas]
theorem datas_getD (l : List ByteArray) (i : Nat) : (datas l).getD i [] = (l.getD i ByteArray.empty).data.toList := by
  unfold datas
  simp only [List.getD, List.getElem?_map]
  cases l[i]? <;> rfl

theorem all_take_succ (f : List UInt8 → Bool) (l : List (List UInt8)) (k : Nat) (hk : k < l.length) : (l.take (k + 1)).all f = ((l.take k).all f && f (l.getD k [])) := by
  rw [List.take_succ_eq_append_getElem hk, List.all_append]
  simp [List.getD, List.getElem?_eq_getElem hk]

set_option maxHeartbeats 1000000 in
theorem blockError_any (h : ByteArray) (a : Option Addr) (l : List ByteArray) (cap : Nat) (c t : Bool) (w : World)
    (hh : h.size ≤ 140737488352000) (hl : ∀ s ∈ l, s.size ≤ 140737488352000) (hn : l.length ≤ 140737488352000) (ht : Texts w a l) :
    Calls Try.prog 40 #[.agg #[.string h, .slice a l.length cap, .bool c, .bool t]] w fun e w' => e = .returned (.int .i64 (Blk.berr h.data.toList (datas l) c)) ∧ Below w.heap.size w w' := by
  by_cases hk : Blk.headOk h.data.toList = false
  · have HE : Hid (Blk.berr h.data.toList (datas l) c = 2) := by simp [Hid, Blk.berr, hk]
    have HK := hide hk
    clear hk
    go_enter Try.func40, Try.ntmps40
    go_wp2_with (first | (go_at_call 58; refine (isHead_any h _ hh).mono ?_; rintro e w1 ⟨rfl, rfl⟩; rw [HK.out]))
    go_ret
    exact ⟨by rw [HE.out]; rfl, (Below.refl _ _).alloc (Nat.le_refl _) _⟩
  · have hk : Blk.headOk h.data.toList = true := by simpa using hk
    have HK := hide hk
    by_cases hp : l.length < 1 ∨ 4 < l.length
    · have HE : Hid (Blk.berr h.data.toList (datas l) c = 3) := by simp only [Hid, Blk.berr, hk, datas_length]; rw [if_neg (by simp), if_pos hp]
      clear hk
      rcases hp with hp | hp
      · have hp' : (l.length : Int) < 1 := by omega
        go_enter Try.func40, Try.ntmps40
        go_wp2_with (first | (go_at_call 58; refine (isHead_any h _ hh).mono ?_; rintro e w1 ⟨rfl, rfl⟩; rw [HK.out]))
        go_ret
        exact ⟨by rw [HE.out]; rfl, (Below.refl _ _).alloc (Nat.le_refl _) _⟩
      · have hp1 : ¬ (l.length : Int) < 1 := by omega
        have hp2 : 4 < (l.length : Int) := by omega
        go_enter Try.func40, Try.ntmps40
        go_wp2_with (first | (go_at_call 58; refine (isHead_any h _ hh).mono ?_; rintro e w1 ⟨rfl, rfl⟩; rw [HK.out]))
        go_ret
        exact ⟨by rw [HE.out]; rfl, (Below.refl _ _).alloc (Nat.le_refl _) _⟩
    · have hp1 : ¬ (l.length : Int) < 1 := by omega
      have hp2 : ¬ 4 < (l.length : Int) := by omega
      have HE : Hid (Blk.berr h.data.toList (datas l) c = if (datas l).all (Blk.partOk c) = false then 4 else 0) := by simp only [Hid, Blk.berr, hk, datas_length]; rw [if_neg (by simp), if_neg hp]
      clear hk hp
      obtain ⟨b, o, rfl, hcell⟩ : ∃ b o, a = some ⟨b, o, none⟩ ∧ ∀ i, i < l.length → w.cell? ⟨b, o + i, none⟩ = some (.string (l.getD i ByteArray.empty)) := by
        rcases ht with h | h
        · subst h; simp at hp1
        · exact h
      clear ht
      have HCL := hide hcell
      clear hcell
      have d1 : decide ((l.length : Int) < 1) = false := by simp; omega
      have d2 : decide (4 < (l.length : Int)) = false := by simp; omega
      go_enter Try.func40, Try.ntmps40
      go_wp2_with (first | (go_at_call 58; refine (isHead_any h _ hh).mono ?_; rintro e w1 ⟨rfl, rfl⟩; rw [HK.out]))
      go_loopw [3] (fun i wr => ∃ k : Nat, k ≤ l.length ∧ i = .int .i64 k ∧ ((datas l).take k).all (Blk.partOk c) = true ∧ BlkAt wr w.heap.size (.string h) (.slice (some ⟨b, o, none⟩) l.length cap) (.bool c) (.bool t) ∧ Below w.heap.size w wr) (fun i _ => l.length - (intOf i).toNat)
      case atStart => exact ⟨0, by omega, rfl, by simp, BlkAt.new _ _ _ _ _, (Below.refl _ _).alloc (Nat.le_refl _) _⟩
      case round =>
        obtain ⟨k, hk2, rfl, hall, hblk, hbel⟩ := hrel
        have HA := hide hall
        have c1 := hblk.cell1
        have c2 := hblk.cell2
        clear hall
        by_cases hlt : k < l.length
        · have hcl := HCL.out k hlt
          have hb := World.block_lt_of_cell? w _ hcl
          rw [← hbel.cell hb] at hcl
          have hsz : (l.getD k ByteArray.empty).size ≤ 140737488352000 := by
            have : l.getD k ByteArray.empty = l[k] := by simp [List.getD, List.getElem?_eq_getElem hlt]
            rw [this]; exact hl _ (List.getElem_mem hlt)
          have HT := hide (all_take_succ (Blk.partOk c) (datas l) k (by rw [datas_length]; exact hlt))
          rw [datas_getD] at HT
          generalize l.getD k ByteArray.empty = s at *
          have hlt' : (k : Int) < (l.length : Int) := by omega
          cases hpo : Blk.partOk c s.data.toList
          · have HPO := hide hpo
            have HF : Hid ((datas l).all (Blk.partOk c) = false) := by
              have h1 : ((datas l).take (k + 1)).all (Blk.partOk c) = false := by rw [HT.out, hpo]; simp
              cases h2 : (datas l).all (Blk.partOk c)
              · rfl
              · have h3 := List.all_eq_true.1 h2
                have h4 : ((datas l).take (k + 1)).all (Blk.partOk c) = true := List.all_eq_true.2 fun x hx => h3 x (List.mem_of_mem_take hx)
                rw [h1] at h4; cases h4
            go_wp2
            go_quiet ((go_at_call 59; exact Calls.quiet_of_same (isPart_any _ _ _ hsz)))
            go_wp2
            go_ret
            refine ⟨?_, below_drewN hbel _⟩
            rw [HE.out, HF.out]
            rfl
          · have HPO := hide hpo
            go_wp2
            go_quiet ((go_at_call 59; exact Calls.quiet_of_same (isPart_any _ _ _ hsz)))
            go_wp2
            go_roundw
            case rel => exact ⟨k + 1, by omega, by go_num, by rw [HT.out, HA.out, HPO.out]; rfl, hblk, below_drewN hbel _⟩
            case measure => simp [intOf]; omega
        · obtain rfl : k = l.length := by omega
          have hlt' : ¬ (l.length : Int) < (l.length : Int) := by omega
          go_wp2
          go_ret
          refine ⟨?_, hbel⟩
          have hal : (datas l).all (Blk.partOk c) = true := by
            have := HA.out
            rw [List.take_of_length_le (by rw [datas_length]; omega)] at this
            exact this
          rw [HE.out, hal]
          rfl
end Go.Proofs.Ytlbpjcphhocdkaa
