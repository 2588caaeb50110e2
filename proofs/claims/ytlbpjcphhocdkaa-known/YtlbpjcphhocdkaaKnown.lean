/- The law Known, proved: for every number the law answers true, and nothing that was in memory has changed. -/
import Derived.Test.YtlbpjcphhocdkaaSum3
import Derived.Test.YtlbpjcphhocdkaaEnc4
import Derived.Test.YtlbpjcphhocdkaaPick
import Derived.ProofKit
import Derived.OpenShut
namespace Go.Proofs.Ytlbpjcphhocdkaa
open Go.RowKit

theorem texts_block {w : World} {g : Nat} {fr : Nat × Nat} (l : List ByteArray) (h : w.heap[g]? = some (.cells (l.map Value.string).toArray 9 fr)) : Texts w (some ⟨g, 0, none⟩) l := by
  refine Or.inr ⟨g, 0, rfl, fun i hi => ?_⟩
  simp [World.cell?, h, List.getElem?_eq_getElem hi, List.getD]

theorem heap_at (W : World) (o : Obj) (g : Nat) (hg : g = W.heap.size) : (W.alloc o).heap[g]? = some o := by subst hg; exact heap_alloc_new W o

theorem enc_at (h : ByteArray) (l : List ByteArray) (c t : Bool) (k : Int) (g n : Nat) (W : World) (out : List UInt8) (hn : l.length = n) (hh : h.size ≤ 100) (hl : ∀ s ∈ l, s.size ≤ 100)
    (hE : Blk.encE h.data.toList (datas l) c k = 0) (hS : Blk.encS h.data.toList (datas l) c t k = out) (hg : W.heap[g]? = some (.cells (l.map Value.string).toArray 9 (0, 0))) :
    Calls Try.prog 17 #[.agg #[.string h, .slice (some ⟨g, 0, none⟩) n n, .bool c, .bool t], .int .i64 k] W fun e w' => e = .returned (.tuple #[.string ⟨out.toArray⟩, .int .i64 0]) ∧ Below W.heap.size W w' := by
  subst hn
  have := encode_any h (some ⟨g, 0, none⟩) l l.length c t k W (by omega) (fun s hs => by have := hl s hs; omega) (by
    have : l.length ≤ Blk.encE h.data.toList (datas l) c k + 4 := by
      rw [hE]
      unfold Blk.encE at hE
      split at hE
      · have := (Blk.berr_ok hE).2.2.1; rw [datas_length] at this; omega
      · omega
    omega) (texts_block l hg)
  rw [hE, hS] at this
  exact this

theorem sum_at (s : ByteArray) (c : Int) (out : List UInt8) (W : World) (hs : s.size ≤ 100) (hE : Crc.sumE c = 0) (hS : Crc.sumS c s.data.toList = out) :
    Calls Try.prog 12 #[.string s, .int .i64 c] W fun e w' => e = .returned (.tuple #[.string ⟨out.toArray⟩, .int .i64 0]) ∧ Below W.heap.size W w' := by
  have := sum_any s c W (by omega)
  rw [hE, hS] at this
  exact this

theorem short_at (k : Int) (out : List UInt8) (W : World) (hE : shortE k = 0) (hS : shortS k = out) :
    Calls Try.prog 14 #[.int .i64 k] W fun e w' => e = .returned (.tuple #[.string ⟨out.toArray⟩, .int .i64 0]) ∧ Below W.heap.size W w' := by
  have := short_any k W
  rw [hE, hS] at this
  exact this

set_option maxHeartbeats 2000000 in
theorem known_case (a : Int) (r : Nat) (hr : r < 9) (h0 : -9223372036854775808 ≤ a) (h1 : a ≤ 9223372036854775807) (hp : pickI a 9 = r) (w : World) :
    Calls Try.prog 8 #[.int .i64 a] w fun e w' => e = .returned (.bool true) ∧ Below w.heap.size w w' := by
  have HP := hide hp
  clear hp
  have fin2 : ∀ {A B : Obj} (w2 : World), Below ((w.alloc A).alloc B).heap.size ((w.alloc A).alloc B) w2 → Below w.heap.size w w2 := fun w2 h =>
    below_step (((Below.refl _ _).alloc (Nat.le_refl _) _).alloc (by simp) _) h
  have fin3 : ∀ {A B : Obj} (C : Obj) (w2 : World), Below (((w.alloc A).alloc B).alloc C).heap.size (((w.alloc A).alloc B).alloc C) w2 → Below w.heap.size w w2 := fun C w2 h =>
    below_step ((((Below.refl _ _).alloc (Nat.le_refl _) _).alloc (by simp) _).alloc (by simp; omega) _) h
  match r, hr with
  | 0, _ =>
    go_enter Try.func8, Try.ntmps8
    go_wp2_with (first | (go_at_call 27; refine (pick_any a 9 _ h0 h1 (by omega) (by omega)).mono ?_; rintro e w1 ⟨rfl, rfl⟩; rw [HP.out]))
    refine (sum_at ⟨#[49, 50, 51, 52, 53, 54, 55, 56, 57]⟩ 1 [61, 187] _ (by decide) (by decide +kernel) (by decide +kernel)).mono ?_
    rintro e w2 ⟨rfl, hb2⟩
    go_wp2
    go_ret
    exact ⟨rfl, fin2 _ hb2⟩
  | 1, _ =>
    go_enter Try.func8, Try.ntmps8
    go_wp2_with (first | (go_at_call 27; refine (pick_any a 9 _ h0 h1 (by omega) (by omega)).mono ?_; rintro e w1 ⟨rfl, rfl⟩; rw [HP.out]))
    refine (sum_at ⟨#[65, 66]⟩ 0 [3] _ (by decide) (by decide +kernel) (by decide +kernel)).mono ?_
    rintro e w2 ⟨rfl, hb2⟩
    go_wp2
    go_ret
    exact ⟨rfl, fin2 _ hb2⟩
  | 2, _ =>
    go_enter Try.func8, Try.ntmps8
    go_wp2_with (first | (go_at_call 27; refine (pick_any a 9 _ h0 h1 (by omega) (by omega)).mono ?_; rintro e w1 ⟨rfl, rfl⟩; rw [HP.out]))
    refine (short_at 3 [22, 22, 4, 5, 255] _ (by decide +kernel) (by decide +kernel)).mono ?_
    rintro e w2 ⟨rfl, hb2⟩
    go_wp2
    go_ret
    exact ⟨rfl, fin2 _ hb2⟩
  | 3, _ =>
    go_enter Try.func8, Try.ntmps8
    go_wp2_with (first | (go_at_call 27; refine (pick_any a 9 _ h0 h1 (by omega) (by omega)).mono ?_; rintro e w1 ⟨rfl, rfl⟩; rw [HP.out]))
    refine (short_at 7 [22, 22, 16, 48, 255] _ (by decide +kernel) (by decide +kernel)).mono ?_
    rintro e w2 ⟨rfl, hb2⟩
    go_wp2
    go_ret
    exact ⟨rfl, fin2 _ hb2⟩
  | 4, _ =>
    go_enter Try.func8, Try.ntmps8
    go_wp2_with (first | (go_at_call 27; refine (pick_any a 9 _ h0 h1 (by omega) (by omega)).mono ?_; rintro e w1 ⟨rfl, rfl⟩; rw [HP.out]))
    refine (enc_at ⟨#[]⟩ [⟨#[65]⟩] false true 0 _ 1 _ [22, 22, 2, 65, 3, 64, 255] rfl (by decide) (by decide) (by decide +kernel) (by decide +kernel) ((Below.heap_alloc _ _ _ (by simp)).trans (heap_alloc_new w _))).mono ?_
    rintro e w2 ⟨rfl, hb2⟩
    go_wp2
    go_ret
    exact ⟨rfl, fin2 _ hb2⟩
  | 5, _ =>
    go_enter Try.func8, Try.ntmps8
    go_wp2_with (first | (go_at_call 27; refine (pick_any a 9 _ h0 h1 (by omega) (by omega)).mono ?_; rintro e w1 ⟨rfl, rfl⟩; rw [HP.out]))
    refine (enc_at ⟨#[]⟩ [⟨#[65]⟩] false true 1 _ 1 _ [22, 22, 2, 65, 3, 209, 145, 255] rfl (by decide) (by decide) (by decide +kernel) (by decide +kernel) ((Below.heap_alloc _ _ _ (by simp)).trans (heap_alloc_new w _))).mono ?_
    rintro e w2 ⟨rfl, hb2⟩
    go_wp2
    go_ret
    exact ⟨rfl, fin2 _ hb2⟩
  | 6, _ =>
    go_enter Try.func8, Try.ntmps8
    go_wp2_with (first | (go_at_call 27; refine (pick_any a 9 _ h0 h1 (by omega) (by omega)).mono ?_; rintro e w1 ⟨rfl, rfl⟩; rw [HP.out]))
    refine (enc_at ⟨#[72]⟩ [⟨#[65]⟩, ⟨#[66]⟩] false false 0 _ 2 _ [22, 22, 1, 72, 2, 65, 31, 21, 66, 23, 85, 255] rfl (by decide) (by decide) (by decide +kernel) (by decide +kernel) (heap_at _ _ _ (by simp))).mono ?_
    rintro e w2 ⟨rfl, hb2⟩
    go_wp2
    go_ret
    exact ⟨rfl, fin3 _ _ hb2⟩
  | 7, _ =>
    go_enter Try.func8, Try.ntmps8
    go_wp2_with (first | (go_at_call 27; refine (pick_any a 9 _ h0 h1 (by omega) (by omega)).mono ?_; rintro e w1 ⟨rfl, rfl⟩; rw [HP.out]))
    refine (enc_at ⟨#[]⟩ [⟨#[16, 3]⟩] true true 0 _ 1 _ [22, 22, 16, 2, 16, 16, 3, 16, 3, 2, 255] rfl (by decide) (by decide) (by decide +kernel) (by decide +kernel) (heap_at _ _ _ (by simp))).mono ?_
    rintro e w2 ⟨rfl, hb2⟩
    go_wp2
    go_ret
    exact ⟨rfl, fin3 _ _ hb2⟩
  | 8, _ =>
    go_enter Try.func8, Try.ntmps8
    go_wp2_with (first | (go_at_call 27; refine (pick_any a 9 _ h0 h1 (by omega) (by omega)).mono ?_; rintro e w1 ⟨rfl, rfl⟩; rw [HP.out]))
    refine (enc_at ⟨#[]⟩ [⟨#[]⟩] false false 0 _ 1 _ [22, 22, 2, 23, 21, 255] rfl (by decide) (by decide) (by decide +kernel) (by decide +kernel) (heap_at _ _ _ (by simp))).mono ?_
    rintro e w2 ⟨rfl, hb2⟩
    go_wp2
    go_ret
    exact ⟨rfl, fin3 _ _ hb2⟩

theorem known_walk (a : Int) (h0 : -9223372036854775808 ≤ a) (h1 : a ≤ 9223372036854775807) (w : World) :
    Calls Try.prog 8 #[.int .i64 a] w fun e w' => e = .returned (.bool true) ∧ Below w.heap.size w w' := by
  have h := pickI_lt a 9 (by omega)
  exact known_case a (pickI a 9).toNat (by omega) h0 h1 (by omega) w

end Go.Proofs.Ytlbpjcphhocdkaa
