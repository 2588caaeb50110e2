/- A block among the arguments, opened: its head, its texts in memory, its two marks, and how great they may be. -/
import Derived.Test.YtlbpjcphhocdkaaEnc2
import Derived.ProofKit
import Derived.OpenShut
import Derived.ShutString
import Derived.SliceStrings
import Derived.SizedLaws
import Derived.Lib.SmallJoins
namespace Go.Proofs.Ytlbpjcphhocdkaa
set_option maxRecDepth 1000000
open Go.ChangeShapes Go.WideShapes Go.ChangeAt Go.RowKit Go.Joins
open Go.ChangeMaps (open_string shut_string)

theorem cellsBlk : Try.prog.cellsOf 30 = 4 := by kernel_rfl
theorem cellsStr : Try.prog.cellsOf 9 = 1 := by kernel_rfl
theorem bytesStr : Try.prog.bytesOf 9 = 16 := by kernel_rfl

theorem strings_at {w : World} {a : Addr} {ss : List ByteArray} (h : ∀ i, i < ss.length → w.cell? (a.add i) = some (.string (ss.getD i ByteArray.empty))) (hp : 0 < ss.length) :
    ∃ b off, a = ⟨b, off, none⟩ ∧ ∀ j, j < ss.length → w.cell? ⟨b, off + j, none⟩ = some (.string (ss.getD j ByteArray.empty)) := by
  obtain ⟨b, off, spot⟩ := a
  have hspot : spot = none := by simpa [Addr.add] using World.cell?_spot (h 0 hp)
  subst hspot
  exact ⟨b, off, rfl, fun j hj => by rw [← Go.WideShapes.add_plain]; exact h j hj⟩

/-- The datum of a list of texts. -/
def PartsD {H : Type} (l : List ByteArray) (d : DataW H) : Prop := (d = .nil ∧ l = []) ∨ ∃ sp, d = .slice (strs l) (strs sp)

theorem open_texts {H : Type} {enc : TypeId × Value → H} {W : World} {fuel : Nat} {v : Value} {y : DataW H × List MemPlace}
    (h : DataW.trod enc Try.prog W 0 (fun _ => true) true fuel 28 [v] = some y) :
    ∃ a l cap, v = .slice a l.length cap ∧ Texts W a l ∧ PartsD l y.1 := by
  rcases open_strings Try.underlying28 Try.underlying9 cellsStr h with ⟨hcs, hx⟩ | ⟨a, len, cap, ss, hcs, _, hl, hm, hz, hx, hcell, hsz⟩
  · simp only [List.cons.injEq, and_true] at hcs
    subst hx
    exact ⟨none, [], 0, hcs, Or.inl rfl, Or.inl ⟨rfl, rfl⟩⟩
  · simp only [List.cons.injEq, and_true] at hcs
    simp only [if_true] at hz
    have hlen : (ss.take len).length = len := by simp; omega
    refine ⟨some a, ss.take len, cap, by rw [hlen]; exact hcs, ?_, Or.inr ⟨ss.drop len, by rw [hx]⟩⟩
    by_cases h0 : len = 0
    · exact Or.inl (List.eq_nil_of_length_eq_zero (by omega))
    · obtain ⟨b, o, rfl, hc⟩ := strings_at hcell (by omega)
      refine Or.inr ⟨b, o, rfl, fun i hi => ?_⟩
      rw [hlen] at hi
      rw [hc i (by omega)]
      simp [List.getD, List.getElem?_take_of_lt hi]

theorem open_block {H : Type} {enc : TypeId × Value → H} {W : World} {base : Nat} {v : Value} {d : DataW H} {p : List MemPlace}
    (hv : Value.okWide Try.prog W .any base 30 v) (h : DataW.Trod enc Try.prog W 0 (fun _ => true) true 30 v d p) :
    ∃ h a l cap c t dl, v = .agg #[.string h, .slice a (List.length l) cap, .bool c, .bool t] ∧ Texts W a l ∧ d = .agg [.lit (.string h.data.toList), dl, .lit (.bool c), .lit (.bool t)] ∧ PartsD l dl := by
  obtain ⟨c0, c1, c2, c3, y0, y1, y2, y3, m, rfl, rfl, rfl, hy0, hy1, hy2, hy3⟩ := open_agg4 Try.underlying30 (by kernel_rfl) cellsBlk hv h
  obtain ⟨s, e0, rfl, _⟩ := DataW.trod_string Try.underlying9 hy0
  obtain ⟨a, l, cap, rfl, ht, hd⟩ := open_texts hy1
  obtain ⟨x2, e2, rfl⟩ := DataW.trod_bool Try.underlying4 hy2
  obtain ⟨x3, e3, rfl⟩ := DataW.trod_bool Try.underlying4 hy3
  simp only [List.cons.injEq, and_true] at e0 e2 e3
  subst e0 e2 e3
  exact ⟨s, a, l, cap, x2, x3, y1.1, rfl, ht, rfl, hd⟩

theorem weights_strs {H : Type} (l : List ByteArray) (s : ByteArray) (h : s ∈ l) : s.size ∈ DataW.weightsAll (H := H) Try.prog 9 (strs l) := by
  induction l with
  | nil => cases h
  | cons x l ih =>
    simp only [strs, List.map_cons, DataW.weightsAll, List.mem_append]
    rcases List.mem_cons.1 h with e | e
    · left; subst e; simp [DataW.weights]
    · right; exact ih e

/-- How great a block may be that is read. -/
theorem block_reach {H : Type} {ts : List TypeId} {ds : List (DataW H)} {h : ByteArray} {l : List ByteArray} {c t : Bool} {dl : DataW H} {j : Nat}
    (hsz : (DataW.weightsEach Try.prog ts ds).all (· ≤ reachBytes) = true) (ht : ts[j]? = some 30) (hd : ds[j]? = some (.agg [.lit (.string h.data.toList), dl, .lit (.bool c), .lit (.bool t)])) (hp : PartsD l dl) :
    h.size ≤ 140737488352000 ∧ (∀ s ∈ l, s.size ≤ 140737488352000) ∧ l.length ≤ 9000000000000 := by
  have hall : ∀ n ∈ DataW.weights Try.prog 30 (.agg [.lit (.string h.data.toList), dl, .lit (.bool c), .lit (.bool t)] : DataW H), n ≤ 140737488351232 := by
    intro n hn
    have := List.all_eq_true.1 hsz _ (DataW.weights_mem_each ht hd n hn)
    exact of_decide_eq_true this
  have hw : ∀ n, n = h.size ∨ n ∈ DataW.weights Try.prog 28 dl → n ≤ 140737488351232 := by
    intro n hn
    apply hall
    simp only [DataW.weights, Try.underlying30, DataW.weightsEach, List.map_cons, List.map_nil, List.mem_append, List.mem_cons, List.not_mem_nil, or_false]
    rcases hn with rfl | hn
    · left; simp
    · right; exact hn
  refine ⟨Nat.le_trans (hw _ (Or.inl rfl)) (by decide), ?_, ?_⟩
  · intro s hs
    refine Nat.le_trans (hw _ ?_) (by decide)
    right
    rcases hp with ⟨_, rfl⟩ | ⟨sp, rfl⟩
    · cases hs
    · simp only [DataW.weights, Try.underlying28, List.mem_cons, List.mem_append]
      right; left
      exact weights_strs l s hs
  · rcases hp with ⟨_, rfl⟩ | ⟨sp, rfl⟩
    · simp
    · have := hw (((strs (H := H) l).length + (strs (H := H) sp).length) * 16) (Or.inr (by simp only [DataW.weights, Try.underlying28, bytesStr, List.mem_cons]; left; trivial))
      simp only [strs, List.length_map] at this
      omega

end Go.Proofs.Ytlbpjcphhocdkaa
