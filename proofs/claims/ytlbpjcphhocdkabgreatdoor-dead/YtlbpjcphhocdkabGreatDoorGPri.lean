/-What is on the line; a law's other arguments. -/
import Derived.Test.YtlbpjcphhocdkabGreatDoorGCal
import Derived.Test.YtlbpjcphhocdkabGreatDoorGPri0
namespace Go.Proofs.YtlbpjcphhocdkabGreatDoor
set_option maxRecDepth 1000000
open Go.RowKit Go.ChangeShapes Go.WideShapes Go.ChangeAt Go.Proofs.YtlbpjcphhocdkabGreatDoor.Mod Go.Proofs.YtlbpjcphhocdkabGreatDoor.Pst Go.Proofs.YtlbpjcphhocdkabGreatDoor.Run

theorem string_reach {H : Type} {ts : List TypeId} {ds : List (DataW H)} {s : ByteArray} {j : Nat}
    (hsz : (DataW.weightsEach Tryz.prog ts ds).all (· ≤ reachBytes) = true) (ht : ts[j]? = some 9) (hd : ds[j]? = some (.lit (.string s.data.toList))) : s.size ≤ 140737488351232 := by
  have := List.all_eq_true.1 hsz _ (DataW.weights_mem_each ht hd s.size (by simp [DataW.weights]))
  exact of_decide_eq_true this
set_option maxHeartbeats 1000000 in
theorem both_h (w0 W : World) (A : RA) (r : R) (s t : ByteArray) (h : Hs w0 W A r) (h0 : (⟨r.x.on0.toArray⟩ : ByteArray) = s) (h1 : (⟨r.x.on1.toArray⟩ : ByteArray) = t) :
    Calls Tryz.prog 13 #[.pointer (some ⟨A.rb, 0, none⟩), .string s, .string t] W fun e w' => e = .returned (.bool true) ∧ Hs w0 w' A r := by
  obtain ⟨c0, _⟩ := h.1.cells
  have HH := hide h
  have E0 := hide h0
  have E1 := hide h1
  clear h h0 h1
  go_enter Tryz.func13, Tryz.ntmps13
  go_wp2_with fail
  refine (onLine_h w0 _ A r 0 HH.out).mono ?_
  rintro e w1 ⟨rfl, h1, _⟩
  rw [show (⟨(onOf r.x 0).toArray⟩ : ByteArray) = s from E0.out]
  obtain ⟨c0', _⟩ := h1.1.cells
  have H1 := hide h1
  clear h1 c0
  go_wp2_with fail
  refine (onLine_h w0 _ A r 1 H1.out).mono ?_
  rintro e w2 ⟨rfl, h2, _⟩
  rw [show (⟨(onOf r.x 1).toArray⟩ : ByteArray) = t from E1.out]
  have H2 := hide h2
  clear h2 c0'
  go_wp2
  go_ret
  exact ⟨rfl, H2.out⟩
theorem say_h (w0 W : World) (A : RA) (r : R) (st : Int) (text head : ByteArray) (cl : Bool) (h : Hs w0 W A r) (hB : Book r) (hst : st = 0 ∨ st = 1) (ht : Tab w0 w0.heap.size) (hs1 : text.size ≤ 140737488351300) (hs2 : head.size ≤ 140737488351300) (la : r.a.want.length ≤ 3000000000000) (lb : r.b.want.length ≤ 3000000000000) :
    Calls Tryz.prog 11 #[.pointer (some ⟨A.rb, 0, none⟩), .int .i64 st, .string text, .string head, .bool cl] W fun e w' => e = .returned (.tuple #[]) ∧ ∃ m, MsgFit m ∧ Hs w0 w' A (saidR r st m) := by
  refine (say_run _ A r st text head cl w0.heap.size W h.bound (fun x hx k => by have := k.2; omega) hB hst (ht.keep fun g hg => h.2.block g hg) hs1 hs2 (by unfold sideOf; split <;> omega) (by rw [hB.a.j]; omega) (by rw [hB.b.j]; omega)).mono ?_
  rintro e w' ⟨rfl, m, hm, h1, hf⟩
  exact ⟨rfl, m, hm, Hs.plus h.2 (fun g k => k.1) h1 hf⟩
theorem bid_bytes {l : List UInt8} (h : l = bidL) : (⟨l.toArray⟩ : ByteArray) = ⟨#[22, 22, 4, 5, 255]⟩ := by rw [h]; rfl
theorem yes_bytes {l : List UInt8} (h : l = yesL) : (⟨l.toArray⟩ : ByteArray) = ⟨#[22, 22, 16, 48, 255]⟩ := by rw [h]; rfl
theorem no_bytes {l : List UInt8} (h : l = []) : (⟨l.toArray⟩ : ByteArray) = ⟨#[]⟩ := by rw [h]
/-- Primary: behind the first tick; k: how many more there were, and one. -/
def PrF (w0 : World) (A : RA) (k : Nat) (W : World) : Prop := ∃ r p0 p1 T, Hs w0 W A r ∧ Fst r p0 p1 T ∧ Fg 5 r ∧ r.x.now + 1 = T + k ∧ r.x.s0.queue ≠ [] ∧ r.x.s1.queue ≠ [] ∧ r.b.told = 0 ∧ k ≤ r.x.c.first
def PrL (w0 : World) (A : RA) (k : Nat) (W : World) : Prop := ∃ r, Hs w0 W A r ∧ Fg 5 r ∧ PL r k
end Go.Proofs.YtlbpjcphhocdkabGreatDoor
