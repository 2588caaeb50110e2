/- The program's Read, whole: it answers what P6 asks. -/
import Derived.Test.YtlbpjcphhocdkaaRd5
namespace Go.Proofs.Ytlbpjcphhocdkaa
open Go.RowKit

def zHeard (n : Nat) : Value := .agg #[.int .i64 n, .string ⟨#[]⟩, .slice none 0 0, .bool false, .bool false]

/-- The value x, in the world w with its list among the blocks from B on, is this answer. -/
def AnsAt (w : World) (B : Nat) (x : Value) : Ans → Prop
  | .data h ps c t => ∃ (hb : ByteArray) (v : Value) (lb : List ByteArray), x = .agg #[.int .i64 2, .string hb, v, .bool c, .bool t] ∧ hb.data.toList = h ∧ datas lb = ps ∧ OwnS w B v lb
  | .none n => x = zHeard n

def ReadPost (kk : Int) (l : List UInt8) (w : World) (e : Ending) (w' : World) : Prop :=
  ∃ A x, e = .returned (.tuple #[x, .int .i64 0]) ∧ ReadsAs kk l A ∧ AnsAt w' w.heap.size x A ∧ Below w.heap.size w w'

theorem results_hrd2 {fn : Func} {k j : Tmp} (hf : fn.results = #[.cell k 36, .tmp j]) (tmps : Array Value) (w : World) (g : Nat) {n h v c t : Value} (ht : tmps.getD k undef = .pointer (some ⟨g, 0, none⟩)) (hb : HrdAt w g n h v c t) :
    (results fn tmps).run Try.prog w = .ok (.tuple #[.agg #[n, h, v, c, t], tmps.getD j undef]) w := by
  obtain ⟨c0, c1, c2, c3, c4⟩ := hb.cell
  simp only [Array.getD_eq_getD_getElem?] at ht
  simp [results, hf, ht, go_sem, c0, c1, c2, c3, c4]

set_option maxHeartbeats 1000000 in
theorem read_no (s : ByteArray) (kk : Int) (w : World) (hk : ¬ (kk = 0 ∨ kk = 1)) :
    Calls Try.prog 21 #[.string s, .int .i64 kk] w fun e w' => e = .returned (.tuple #[zHeard 0, .int .i64 1]) ∧ Below w.heap.size w w' := by
  have hd : Hid (decide (kk = 0 ∨ kk = 1) = false) := by simp [Hid, hk]
  have hH := HrdAt.new w (.int .i64 0) (.string ⟨#[]⟩) (.slice none 0 0) (.bool false) (.bool false)
  have hw : Below w.heap.size w (w.alloc (.cells #[.int .i64 0, .string ⟨#[]⟩, .slice none 0 0, .bool false, .bool false] 36)) := (Below.refl _ _).alloc (Nat.le_refl _) _
  have HH := hide hH
  have HW := hide hw
  clear hH hw hk
  go_enter Try.func21, Try.ntmps21
  go_wp2_with (first | (go_at_call 34; refine (isCheck_any kk _).mono ?_; rintro e w1 ⟨rfl, rfl⟩; rw [hd.out]))
  (try simp only [Exit.inBlock, Exit.then])
  refine bodyPost_ret (results_hrd2 rfl _ _ w.heap.size rfl HH.out) rfl ?_
  exact ⟨rfl, HW.out⟩

theorem AnsAt.move {w w' : World} {B B' : Nat} {x : Value} {A : Ans} (h : AnsAt w B x A) (hB : B' ≤ B) (hk : ∀ g, B ≤ g → g < w.heap.size → w'.heap[g]? = w.heap[g]?) : AnsAt w' B' x A := by
  cases A with
  | data h1 ps1 c1 t1 =>
    obtain ⟨hb, v, lb, e1, e2, e3, e4⟩ := h
    exact ⟨hb, v, lb, e1, e2, e3, (e4.keep hk).mono hB⟩
  | none n => exact h
theorem five_keep (w : World) (g : Nat) (a b c d e : Value) (k : Nat) (hk : k ≠ g) : (((((w.setCell ⟨g, 0, none⟩ a).setCell ⟨g, 1, none⟩ b).setCell ⟨g, 2, none⟩ c).setCell ⟨g, 3, none⟩ d).setCell ⟨g, 4, none⟩ e).heap[k]? = w.heap[k]? := by
  rw [Below.heap_setCell _ _ _ _ (by simpa using hk), Below.heap_setCell _ _ _ _ (by simpa using hk), Below.heap_setCell _ _ _ _ (by simpa using hk), Below.heap_setCell _ _ _ _ (by simpa using hk), Below.heap_setCell _ _ _ _ (by simpa using hk)]

set_option maxHeartbeats 4000000 in
theorem read_any (s : ByteArray) (kk : Int) (w : World) (hs : s.size ≤ 140737488352000) (hk : kk = 0 ∨ kk = 1) :
    Calls Try.prog 21 #[.string s, .int .i64 kk] w fun e w' => ReadPost kk s.data.toList w e w' := by
  have hd : Hid (decide (kk = 0 ∨ kk = 1) = true) := by simp [Hid, hk]
  have HK := hide hk
  have hH := HrdAt.new w (.int .i64 0) (.string ⟨#[]⟩) (.slice none 0 0) (.bool false) (.bool false)
  have hw : Below w.heap.size w (w.alloc (.cells #[.int .i64 0, .string ⟨#[]⟩, .slice none 0 0, .bool false, .bool false] 36)) := (Below.refl _ _).alloc (Nat.le_refl _) _
  have HH := hide hH
  have HW := hide hw
  clear hH hw hk
  go_enter Try.func21, Try.ntmps21
  go_wp2_with (first | (go_at_call 34; refine (isCheck_any kk _).mono ?_; rintro e w1 ⟨rfl, rfl⟩; rw [hd.out]) | (go_at_call 48; refine (behindSyns_any s _ hs).mono ?_; rintro e w1 ⟨r, rfl, HR, hr, rfl⟩))
  refine (beginsBlock_any r _ (by omega)).mono ?_
  rintro e w1 ⟨rfl, rfl⟩
  generalize hW1 : w.alloc (.cells #[.int .i64 0, .string ⟨#[]⟩, .slice none 0 0, .bool false, .bool false] 36) = W1 at *
  have hz1 : W1.heap.size = w.heap.size + 1 := by rw [← hW1]; simp
  clear hW1
  cases hb : begins r.data.toList
  · have HB := hide hb
    clear hb
    go_wp2_with fail
    refine (shortKind_any r _).mono ?_
    rintro e w2 ⟨n, rfl, HN, hb2⟩
    have hH2 := HH.out.below hb2 (by omega)
    obtain ⟨c0, c1, c2, c3, c4⟩ := hH2.cell
    have y0 := hH2.free 0
    have y1 := hH2.free 1
    have y2 := hH2.free 2
    have y3 := hH2.free 3
    have y4 := hH2.free 4
    have HH2 := hide hH2
    have HW2 := hide (HW.out.trans (hb2.mono (by omega)))
    clear hH2 hb2
    go_wp2
    (try simp only [Exit.inBlock, Exit.then])
    refine bodyPost_ret (results_hrd2 rfl _ _ w.heap.size rfl (HrdAt.all HH2.out)) rfl ?_
    refine ⟨.none n, _, rfl, Or.inr ⟨?_, ?_⟩, rfl, below_five HW2.out (Nat.le_refl _) _ _ _ _ _⟩
    · rw [← HR.out.data]; exact HB.out
    · rw [← HR.out.data]; exact HN.out
  · have HB := hide hb
    clear hb
    go_wp2_with fail
    refine (heardBlock_any r kk _ (by omega) HK.out).mono ?_
    rintro e w2 ⟨(⟨h, v, l, c, t, rfl, hS, hg⟩ | ⟨rfl, hg⟩), hb2⟩
    · obtain ⟨a, cap, rfl, _⟩ := hS.texts
      have hH2 := HH.out.below hb2 (by omega)
      obtain ⟨c0, c1, c2, c3, c4⟩ := hH2.cell
      have y0 := hH2.free 0
      have y1 := hH2.free 1
      have y2 := hH2.free 2
      have y3 := hH2.free 3
      have y4 := hH2.free 4
      have HH2 := hide hH2
      have HW2 := hide (HW.out.trans (hb2.mono (by omega)))
      have HG := hide hg
      have HS := hide hS
      clear hH2 hb2 hS hg
      go_wp2
      (try simp only [Exit.inBlock, Exit.then])
      refine bodyPost_ret (results_hrd2 rfl _ _ w.heap.size rfl (HrdAt.all HH2.out)) rfl ?_
      refine ⟨.data h.data.toList (datas l) c t, _, rfl, ⟨?_, ?_⟩, ⟨h, _, l, rfl, rfl, rfl, ?_⟩, below_five HW2.out (Nat.le_refl _) _ _ _ _ _⟩
      · rw [← HR.out.data]; exact HB.out
      · rw [← HR.out.data]; exact HG.out
      · exact (own_five HS.out (by omega) _ _ _ _ _).mono (by omega)
    · have hH2 := HH.out.below hb2 (by omega)
      obtain ⟨c0, c1, c2, c3, c4⟩ := hH2.cell
      have y0 := hH2.free 0
      have y1 := hH2.free 1
      have y2 := hH2.free 2
      have y3 := hH2.free 3
      have y4 := hH2.free 4
      have HH2 := hide hH2
      have HW2 := hide (HW.out.trans (hb2.mono (by omega)))
      have HG := hide hg
      clear hH2 hb2 hg
      go_wp2
      (try simp only [Exit.inBlock, Exit.then])
      refine bodyPost_ret (results_hrd2 rfl _ _ w.heap.size rfl (HrdAt.all HH2.out)) rfl ?_
      refine ⟨.none 1, _, rfl, Or.inl ⟨?_, rfl, ?_⟩, rfl, below_five HW2.out (Nat.le_refl _) _ _ _ _ _⟩
      · rw [← HR.out.data]; exact HB.out
      · rw [← HR.out.data]; exact HG.out
end Go.Proofs.Ytlbpjcphhocdkaa
