/-A configuration out of any numbers. strconv.Itoa's contract, laid at this program (the numbers are this seat's: laid anew at each by the kit's own tools). -/
import Derived.Test.YtlbpjcphhocdkabGreatDoorPick
import Derived.Test.YtlbpjcphhocdkabGreatDoorGLm
import Derived.Test.YtlbpjcphhocdkabGreatDoorGKa
import Derived.Deep.RegionHeld3
import Derived.Shelf.Strconv.Itoa3
import Derived.Test.YtlbpjcphhocdkabGreatDoorProg
namespace Go.Proofs.YtlbpjcphhocdkabGreatDoor
set_option maxRecDepth 1000000
open Go.RowKit Go.Proofs.YtlbpjcphhocdkabGreatDoor.Mod

theorem pick_nat (c n : Int) (w : World) (h : I64 c) (hn : 0 < n) (hm : n ≤ 1000000000) :
    Calls Tryz.prog 16 #[.int .i64 c, .int .i64 n] w fun e w' => ∃ k : Nat, e = .returned (.int .i64 k) ∧ (k : Int) < n ∧ w' = w := by
  refine (pick_any c n w h.1 h.2 hn hm).mono ?_
  rintro e w' ⟨rfl, hw⟩
  have := pickI_lt c n hn
  exact ⟨(pickI c n).toNat, by rw [Int.toNat_of_nonneg this.1], by omega, hw⟩

def rawV (a0 a1 a2 a3 a4 a5 a6 a7 a8 a9 : Int) : Value := .agg #[.int .i64 a0, .int .i64 a1, .int .i64 a2, .int .i64 a3, .int .i64 a4, .int .i64 a5, .int .i64 a6, .int .i64 a7, .int .i64 a8, .int .i64 a9]
def Tf (g : Nat) (a : Act) : Prop := a.defers = [] ∧ a.tmps = List.toArray (a.tmps.getD 0 undef :: .pointer (some ⟨g, 0, none⟩) :: .pointer (some ⟨g + 1, 0, none⟩) :: .pointer (some ⟨g + 1 + 1, 0, none⟩) :: a.tmps.getD 4 undef :: a.tmps.getD 5 undef :: a.tmps.getD 6 undef :: a.tmps.getD 7 undef :: a.tmps.getD 8 undef :: a.tmps.getD 9 undef :: a.tmps.getD 10 undef :: a.tmps.getD 11 undef :: a.tmps.getD 12 undef :: a.tmps.getD 13 undef :: a.tmps.getD 14 undef :: a.tmps.getD 15 undef :: a.tmps.getD 16 undef :: a.tmps.getD 17 undef :: a.tmps.getD 18 undef :: a.tmps.getD 19 undef :: a.tmps.getD 20 undef :: a.tmps.getD 21 undef :: a.tmps.getD 22 undef :: a.tmps.getD 23 undef :: a.tmps.getD 24 undef :: a.tmps.getD 25 undef :: a.tmps.getD 26 undef :: a.tmps.getD 27 undef :: a.tmps.getD 28 undef :: a.tmps.getD 29 undef :: a.tmps.getD 30 undef :: a.tmps.getD 31 undef :: a.tmps.getD 32 undef :: a.tmps.getD 33 undef :: a.tmps.getD 34 undef :: a.tmps.getD 35 undef :: a.tmps.getD 36 undef :: a.tmps.getD 37 undef :: a.tmps.getD 38 undef :: a.tmps.getD 39 undef :: a.tmps.getD 40 undef :: a.tmps.getD 41 undef :: a.tmps.getD 42 undef :: a.tmps.getD 43 undef :: a.tmps.getD 44 undef :: a.tmps.getD 45 undef :: a.tmps.getD 46 undef :: a.tmps.getD 47 undef :: a.tmps.getD 48 undef :: a.tmps.getD 49 undef :: a.tmps.getD 50 undef :: a.tmps.getD 51 undef :: a.tmps.getD 52 undef :: a.tmps.getD 53 undef :: a.tmps.getD 54 undef :: a.tmps.getD 55 undef :: a.tmps.getD 56 undef :: a.tmps.getD 57 undef :: a.tmps.getD 58 undef :: a.tmps.getD 59 undef :: a.tmps.getD 60 undef :: a.tmps.getD 61 undef :: a.tmps.getD 62 undef :: a.tmps.getD 63 undef :: a.tmps.getD 64 undef :: a.tmps.getD 65 undef :: a.tmps.getD 66 undef :: a.tmps.getD 67 undef :: a.tmps.getD 68 undef :: a.tmps.getD 69 undef :: a.tmps.getD 70 undef :: [])
theorem Tf.use {g : Nat} {a : Act} (h : Tf g a) : ∃ u : Nat → Value, a = { tmps := List.toArray (u 0 :: .pointer (some ⟨g, 0, none⟩) :: .pointer (some ⟨g + 1, 0, none⟩) :: .pointer (some ⟨g + 1 + 1, 0, none⟩) :: u 4 :: u 5 :: u 6 :: u 7 :: u 8 :: u 9 :: u 10 :: u 11 :: u 12 :: u 13 :: u 14 :: u 15 :: u 16 :: u 17 :: u 18 :: u 19 :: u 20 :: u 21 :: u 22 :: u 23 :: u 24 :: u 25 :: u 26 :: u 27 :: u 28 :: u 29 :: u 30 :: u 31 :: u 32 :: u 33 :: u 34 :: u 35 :: u 36 :: u 37 :: u 38 :: u 39 :: u 40 :: u 41 :: u 42 :: u 43 :: u 44 :: u 45 :: u 46 :: u 47 :: u 48 :: u 49 :: u 50 :: u 51 :: u 52 :: u 53 :: u 54 :: u 55 :: u 56 :: u 57 :: u 58 :: u 59 :: u 60 :: u 61 :: u 62 :: u 63 :: u 64 :: u 65 :: u 66 :: u 67 :: u 68 :: u 69 :: u 70 :: []), defers := [] } := ⟨fun i => a.tmps.getD i undef, by obtain ⟨h1, h2⟩ := h; cases a; simp only at h1 h2; subst h1; exact congrArg (fun t => ({ tmps := t, defers := [] } : Act)) h2⟩

/-- The three blocks. -/
structure FitW (w W : World) (raw z d : Array Value) : Prop where
  c0 : W.heap[w.heap.size]? = some (.cells raw 23 (0, 0))
  c1 : W.heap[w.heap.size + 1]? = some (.cells z 23 (0, 0))
  c2 : W.heap[w.heap.size + 1 + 1]? = some (.cells d 23 (0, 0))
  bel : Below w.heap.size w W
theorem FitW.lit (w : World) (raw z d : Array Value) : FitW w (((w.alloc (.cells raw 23)).alloc (.cells z 23)).alloc (.cells d 23)) raw z d := by
  have sz : ∀ (W : World) (o : Obj), (W.alloc o).heap.size = W.heap.size + 1 := fun W o => by show (W.heap.push o).size = _; exact Array.size_push _
  have ab : ∀ (W : World) (o : Obj) (g : Nat), g < W.heap.size → (W.alloc o).heap[g]? = W.heap[g]? := fun W o g hg => (Below.alloc (Below.refl W.heap.size W) (Nat.le_refl _) o).block g hg
  refine ⟨?_, ?_, ?_, ((((Below.refl _ w).alloc (Nat.le_refl _) _).alloc (by rw [sz]; omega) _).alloc (by rw [sz, sz]; omega) _)⟩
  · rw [ab _ _ _ (by rw [sz, sz]; omega), ab _ _ _ (by rw [sz]; omega)]
    exact heap_alloc_new w _
  · rw [ab _ _ _ (by rw [sz, sz]; omega), ← sz w (.cells raw 23)]
    exact heap_alloc_new _ _
  · rw [← sz w (.cells raw 23), ← sz (w.alloc (.cells raw 23)) (.cells z 23)]
    exact heap_alloc_new _ _
theorem FitW.drew {w W : World} {raw z d : Array Value} (h : FitW w W raw z d) : FitW w W.drew raw z d := ⟨h.c0, h.c1, h.c2, h.bel.drew⟩
theorem FitW.raw' {w W : World} {raw z d : Array Value} (h : FitW w W raw z d) (i : Nat) : W.cell? ⟨w.heap.size, i, none⟩ = raw[i]? := by simp [World.cell?, h.c0]
theorem FitW.dat {w W : World} {raw z d : Array Value} (h : FitW w W raw z d) (i : Nat) : W.cell? ⟨w.heap.size + 1 + 1, i, none⟩ = d[i]? := by simp [World.cell?, h.c2]
theorem results_cfg {fn : Func} {k : Tmp} (hf : fn.results = #[.cell k 23]) (tmps : Array Value) (w : World) (g : Nat) {v0 v1 v2 v3 v4 v5 v6 v7 v8 v9 : Value} (ht : tmps.getD k undef = .pointer (some ⟨g, 0, none⟩)) (h : w.heap[g]? = some (.cells #[v0, v1, v2, v3, v4, v5, v6, v7, v8, v9] 23 (0, 0))) :
    (results fn tmps).run Tryz.prog w = .ok (.agg #[v0, v1, v2, v3, v4, v5, v6, v7, v8, v9]) w := by
  have c0 : w.cell? ⟨g, 0, none⟩ = some v0 := by simp [World.cell?, h]
  have c1 : w.cell? ⟨g, 1, none⟩ = some v1 := by simp [World.cell?, h]
  have c2 : w.cell? ⟨g, 2, none⟩ = some v2 := by simp [World.cell?, h]
  have c3 : w.cell? ⟨g, 3, none⟩ = some v3 := by simp [World.cell?, h]
  have c4 : w.cell? ⟨g, 4, none⟩ = some v4 := by simp [World.cell?, h]
  have c5 : w.cell? ⟨g, 5, none⟩ = some v5 := by simp [World.cell?, h]
  have c6 : w.cell? ⟨g, 6, none⟩ = some v6 := by simp [World.cell?, h]
  have c7 : w.cell? ⟨g, 7, none⟩ = some v7 := by simp [World.cell?, h]
  have c8 : w.cell? ⟨g, 8, none⟩ = some v8 := by simp [World.cell?, h]
  have c9 : w.cell? ⟨g, 9, none⟩ = some v9 := by simp [World.cell?, h]
  simp only [Array.getD_eq_getD_getElem?] at ht
  simp [results, hf, ht, go_sem, c0, c1, c2, c3, c4, c5, c6, c7, c8, c9]

set_option maxHeartbeats 2000000 in
theorem fit_any (a0 a1 a2 a3 a4 a5 a6 a7 a8 a9 : Int) (w : World) (i0 : I64 a0) (i1 : I64 a1) (i2 : I64 a2) (i3 : I64 a3) (i4 : I64 a4) (i5 : I64 a5) (i6 : I64 a6) (i7 : I64 a7) (i8 : I64 a8) (i9 : I64 a9) :
    Calls Tryz.prog 22 #[rawV a0 a1 a2 a3 a4 a5 a6 a7 a8 a9] w fun e w' => ∃ d : Cfg, d.Ok ∧ e = .returned (cfgV d) ∧ Below w.heap.size w w' := by
  unfold rawV
  have I0 := hide i0
  have I1 := hide i1
  have I2 := hide i2
  have I3 := hide i3
  have I4 := hide i4
  have I5 := hide i5
  have I6 := hide i6
  have I7 := hide i7
  have I8 := hide i8
  have I9 := hide i9
  clear i0 i1 i2 i3 i4 i5 i6 i7 i8 i9
  go_enter Tryz.func22, Tryz.ntmps22
  go_wp2_with fail
  refine (pick_nat a0 2 _ I0.out (by omega) (by omega)).mono ?_
  rintro e W0 ⟨k0, rfl, h0, hw⟩
  obtain rfl := hw.symm
  clear hw
  go_wp2_with fail
  refine (pick_nat a1 32 _ I1.out (by omega) (by omega)).mono ?_
  rintro e W1 ⟨k1, rfl, h1, hw⟩
  obtain rfl := hw.symm
  clear hw
  go_wp2_with fail
  refine (pick_nat a2 4 _ I2.out (by omega) (by omega)).mono ?_
  rintro e W2 ⟨k2, rfl, h2, hw⟩
  obtain rfl := hw.symm
  clear hw
  go_wp2_with fail
  refine (pick_nat a3 8 _ I3.out (by omega) (by omega)).mono ?_
  rintro e W3 ⟨k3, rfl, h3, hw⟩
  obtain rfl := hw.symm
  clear hw
  go_wp2_with fail
  refine (pick_nat a4 17 _ I4.out (by omega) (by omega)).mono ?_
  rintro e W4 ⟨k4, rfl, h4, hw⟩
  obtain rfl := hw.symm
  clear hw
  go_wp2_with fail
  have p5 := pickI_lt a5 (20 - (3 + k4)) (by omega)
  have wa : IntKind.i64.wrap (3 + (k4 : Int) + 1) = 3 + k4 + 1 := by rw [IntKind.wrap_i64]; omega
  have wb : IntKind.i64.wrap (20 - (3 + (k4 : Int))) = 20 - (3 + k4) := by rw [IntKind.wrap_i64]; omega
  have wc : IntKind.i64.wrap (3 + (k4 : Int) + 1 + pickI a5 (20 - (3 + k4))) = 3 + k4 + 1 + pickI a5 (20 - (3 + k4)) := by rw [IntKind.wrap_i64]; omega
  refine region_only (fun a W => Tf w.heap.size a ∧ W = (((w.alloc (.cells #[.int .i64 a0, .int .i64 a1, .int .i64 a2, .int .i64 a3, .int .i64 a4, .int .i64 a5, .int .i64 a6, .int .i64 a7, .int .i64 a8, .int .i64 a9] 23)).alloc (.cells #[.int .i64 0, .int .i64 0, .int .i64 0, .int .i64 0, .int .i64 0, .int .i64 0, .int .i64 0, .int .i64 0, .int .i64 0, .int .i64 0] 23)).alloc (.cells #[.int .i64 k0, .int .i64 (1 + k1), .int .i64 (1 + k2), .int .i64 (1 + k3), .int .i64 (3 + k4), .int .i64 (3 + k4 + 1 + pickI a5 (20 - (3 + k4))), .int .i64 0, .int .i64 0, .int .i64 0, .int .i64 0] 23)).drew) ?_ ?_
  · go_region_held3 (fun W => W.cell? ⟨w.heap.size, 5, none⟩ = some (.int .i64 a5) ∧ W.cell? ⟨w.heap.size + 1 + 1, 4, none⟩ = some (.int .i64 (3 + k4))) (exact ⟨(FitW.lit w _ _ _).raw' 5, (FitW.lit w _ _ _).dat 4⟩)
      ((go_at_call 16; refine (pick_any a5 (20 - (3 + k4)) _ I5.out.1 I5.out.2 (by omega) (by omega)).mono ?_; rintro e w5 ⟨rfl, hw⟩; obtain rfl := hw.symm))
    all_goals exact ⟨⟨rfl, rfl⟩, rfl⟩
  rintro a' W7 ⟨htk, hW7⟩
  obtain ⟨u, rfl⟩ := htk.use
  obtain ⟨k5, hk5⟩ : ∃ k : Nat, 3 + (k4 : Int) + 1 + pickI a5 (20 - (3 + k4)) = 3 + k4 + 1 + k := ⟨(pickI a5 (20 - (3 + k4))).toNat, by omega⟩
  have h5 : (k5 : Int) < 20 - (3 + k4) := by omega
  rw [hk5] at hW7
  obtain rfl := hW7
  clear htk hk5 p5 wa wb wc
  go_wp2_with fail
  refine (pick_nat a6 18 _ I6.out (by omega) (by omega)).mono ?_
  rintro e W6 ⟨k6, rfl, h6, hw⟩
  obtain rfl := hw.symm
  clear hw
  go_wp2_with fail
  refine (pick_nat a8 7 _ I8.out (by omega) (by omega)).mono ?_
  rintro e W8 ⟨k8, rfl, h8, hw⟩
  obtain rfl := hw.symm
  clear hw
  go_wp2_with fail
  refine (pick_nat a9 8 _ I9.out (by omega) (by omega)).mono ?_
  rintro e W9 ⟨k9, rfl, h9, hw⟩
  obtain rfl := hw.symm
  clear hw
  have HMN : Hid ((1 + (k8 : Int) + 2) * (3 + k6) = ((k8 + 3) * (k6 + 3) : Nat)) := by
    have e1 : 1 + (k8 : Int) + 2 = ((k8 + 3 : Nat) : Int) := by omega
    have e2 : 3 + (k6 : Int) = ((k6 + 3 : Nat) : Int) := by omega
    rw [Hid, e1, e2, ← Int.natCast_mul]
  have hmul : (1 + (k8 : Int) + 2) * (3 + k6) ≤ 180 ∧ 9 ≤ (1 + (k8 : Int) + 2) * (3 + k6) := by
    have a := Nat.mul_le_mul (show k8 + 3 ≤ 9 by omega) (show k6 + 3 ≤ 20 by omega)
    have a' := Nat.mul_le_mul (show 3 ≤ k8 + 3 by omega) (show 3 ≤ k6 + 3 by omega)
    rw [HMN.out]; omega
  have wm : IntKind.i64.wrap ((1 + (k8 : Int) + 2) * (3 + k6)) = (1 + (k8 : Int) + 2) * (3 + k6) := by rw [IntKind.wrap_i64]; omega
  go_wp2_with fail
  generalize hM : (1 + (k8 : Int) + 2) * (3 + k6) = M at *
  clear hM
  refine (pick_nat a7 (256 - (M + 2)) _ I7.out (by omega) (by omega)).mono ?_
  rintro e W17 ⟨k7, rfl, h7, hw⟩
  obtain rfl := hw.symm
  clear hw
  go_wp2_with fail
  (try simp only [Exit.inBlock, Exit.then])
  have L := FitW.lit w #[.int .i64 a0, .int .i64 a1, .int .i64 a2, .int .i64 a3, .int .i64 a4, .int .i64 a5, .int .i64 a6, .int .i64 a7, .int .i64 a8, .int .i64 a9] #[.int .i64 k0, .int .i64 (1 + k1), .int .i64 (1 + k2), .int .i64 (1 + k3), .int .i64 (3 + k4), .int .i64 (3 + k4 + 1 + k5), .int .i64 (3 + k6), .int .i64 (M + 2 + k7), .int .i64 (1 + k8), .int .i64 k9] #[.int .i64 k0, .int .i64 (1 + k1), .int .i64 (1 + k2), .int .i64 (1 + k3), .int .i64 (3 + k4), .int .i64 (3 + k4 + 1 + k5), .int .i64 (3 + k6), .int .i64 (M + 2 + k7), .int .i64 (1 + k8), .int .i64 k9]
  refine bodyPost_ret (results_cfg rfl _ _ (w.heap.size + 1) rfl L.drew.c1) rfl ?_
  refine ⟨⟨k0, 1 + k1, 1 + k2, 1 + k3, 3 + k4, 3 + k4 + 1 + k5, 3 + k6, (k8 + 3) * (k6 + 3) + 2 + k7, 1 + k8, k9⟩, ?_, ?_, L.drew.bel⟩
  · have e8 : (1 + k8 + 2) * (3 + k6) = (k8 + 3) * (k6 + 3) := by rw [Nat.add_comm 3 k6]; congr 1; omega
    have em := HMN.out
    refine ⟨by simp only; omega, by simp only; omega, by simp only; omega, by simp only; omega, by simp only; omega, by simp only; omega, by simp only; omega, by simp only; omega, by simp only; omega, ?_⟩
    show (1 + k8 + 2) * (3 + k6) + 2 ≤ (k8 + 3) * (k6 + 3) + 2 + k7 ∧ (k8 + 3) * (k6 + 3) + 2 + k7 ≤ 255
    rw [e8]
    omega
  · have em := HMN.out
    have e1 : ((1 + k1 : Nat) : Int) = 1 + k1 := by omega
    have e2 : ((1 + k2 : Nat) : Int) = 1 + k2 := by omega
    have e3 : ((1 + k3 : Nat) : Int) = 1 + k3 := by omega
    have e4 : ((3 + k4 : Nat) : Int) = 3 + k4 := by omega
    have e5 : ((3 + k4 + 1 + k5 : Nat) : Int) = 3 + k4 + 1 + k5 := by omega
    have e6 : ((3 + k6 : Nat) : Int) = 3 + k6 := by omega
    have e7 : (((k8 + 3) * (k6 + 3) + 2 + k7 : Nat) : Int) = M + 2 + k7 := by omega
    have e8 : ((1 + k8 : Nat) : Int) = 1 + k8 := by omega
    show _ = Ending.returned (.agg #[.int .i64 (k0 : Nat), .int .i64 ((1 + k1 : Nat) : Int), .int .i64 ((1 + k2 : Nat) : Int), .int .i64 ((1 + k3 : Nat) : Int), .int .i64 ((3 + k4 : Nat) : Int), .int .i64 ((3 + k4 + 1 + k5 : Nat) : Int), .int .i64 ((3 + k6 : Nat) : Int), .int .i64 (((k8 + 3) * (k6 + 3) + 2 + k7 : Nat) : Int), .int .i64 ((1 + k8 : Nat) : Int), .int .i64 (k9 : Nat)])
    rw [e1, e2, e3, e4, e5, e6, e7, e8]

end Go.Proofs.YtlbpjcphhocdkabGreatDoor

namespace Go.Proofs.YtlbpjcphhocdkabGreatDoor
open Go.Shelf
def itoaRen : Go.Shelf.Ren := ⟨fun | 171 => 25 | 243 => 40 | 246 => 53 | 283 => 65 | 284 => 66 | 285 => 67 | 286 => 68 | 129 => 89 | 317 => 88 | 318 => 90 | 319 => 91 | 320 => 92 | 337 => 107 | 338 => 108 | n => n, fun | 3 => 3 | 9 => 9 | 2 => 2 | 4 => 4 | 171 => 106 | 0 => 0 | 53 => 107 | 37 => 110 | 5 => 5 | 173 => 111 | 212 => 122 | 51 => 123 | 20 => 20 | 213 => 124 | 46 => 125 | 232 => 145 | 233 => 146 | n => n, fun | 17 => 0 | 18 => 1 | 19 => 2 | n => n⟩
theorem laysItoa : Go.Proofs.LaysM.n171 Tryz.prog itoaRen := {
  mixed := by kernel_rfl
  f129 := Tryz.func89.trans (congrArg some (by kernel_rfl))
  f171 := Tryz.func25.trans (congrArg some (by kernel_rfl))
  f243 := Tryz.func40.trans (congrArg some (by kernel_rfl))
  f246 := Tryz.func53.trans (congrArg some (by kernel_rfl))
  f283 := Tryz.func65.trans (congrArg some (by kernel_rfl))
  f284 := Tryz.func66.trans (congrArg some (by kernel_rfl))
  f285 := Tryz.func67.trans (congrArg some (by kernel_rfl))
  f286 := Tryz.func68.trans (congrArg some (by kernel_rfl))
  f317 := Tryz.func88.trans (congrArg some (by kernel_rfl))
  f318 := Tryz.func90.trans (congrArg some (by kernel_rfl))
  f319 := Tryz.func91.trans (congrArg some (by kernel_rfl))
  f320 := Tryz.func92.trans (congrArg some (by kernel_rfl))
  f337 := Tryz.func107.trans (congrArg some (by kernel_rfl))
  f338 := Tryz.func108.trans (congrArg some (by kernel_rfl))
  t0 := Tryz.underlying0
  a0 := Tryz.isAgg0
  z0 := Tryz.sizeOf0
  v0 := Tryz.zeroValue0
  t2 := Tryz.underlying2
  a2 := Tryz.isAgg2
  z2 := Tryz.sizeOf2
  v2 := Tryz.zeroValue2
  t3 := Tryz.underlying3
  a3 := Tryz.isAgg3
  z3 := Tryz.sizeOf3
  v3 := Tryz.zeroValue3
  t4 := Tryz.underlying4
  a4 := Tryz.isAgg4
  z4 := Tryz.sizeOf4
  v4 := Tryz.zeroValue4
  t5 := Tryz.underlying5
  a5 := Tryz.isAgg5
  z5 := Tryz.sizeOf5
  v5 := Tryz.zeroValue5
  t9 := Tryz.underlying9
  a9 := Tryz.isAgg9
  z9 := Tryz.sizeOf9
  v9 := Tryz.zeroValue9
  t20 := Tryz.underlying20
  a20 := Tryz.isAgg20
  z20 := Tryz.sizeOf20
  v20 := Tryz.zeroValue20
  t37 := Tryz.underlying110
  a37 := Tryz.isAgg110
  z37 := Tryz.sizeOf110
  v37 := Tryz.zeroValue110
  t46 := Tryz.underlying125
  a46 := Tryz.isAgg125
  z46 := Tryz.sizeOf125
  v46 := Tryz.zeroValue125
  t51 := Tryz.underlying123
  a51 := Tryz.isAgg123
  z51 := Tryz.sizeOf123
  v51 := Tryz.zeroValue123
  t53 := Tryz.underlying107
  a53 := Tryz.isAgg107
  z53 := Tryz.sizeOf107
  v53 := Tryz.zeroValue107
  t171 := Tryz.underlying106
  a171 := Tryz.isAgg106
  z171 := Tryz.sizeOf106
  v171 := Tryz.zeroValue106
  t173 := Tryz.underlying111
  a173 := Tryz.isAgg111
  z173 := Tryz.sizeOf111
  v173 := Tryz.zeroValue111
  t212 := Tryz.underlying122
  a212 := Tryz.isAgg122
  z212 := Tryz.sizeOf122
  v212 := Tryz.zeroValue122
  t213 := Tryz.underlying124
  a213 := Tryz.isAgg124
  z213 := Tryz.sizeOf124
  t232 := Tryz.underlying145
  a232 := Tryz.isAgg145
  z232 := Tryz.sizeOf145
  v232 := Tryz.zeroValue145
  t233 := Tryz.underlying146
  a233 := Tryz.isAgg146
  z233 := Tryz.sizeOf146
  v233 := Tryz.zeroValue146
  g17 := by kernel_rfl
  g18 := by kernel_rfl
  g19 := by kernel_rfl
  i0 := by kernel_rfl
  i2 := by kernel_rfl
  i3 := by kernel_rfl
  i4 := by kernel_rfl
  i5 := by kernel_rfl
  i9 := by kernel_rfl
  i20 := by kernel_rfl
  i37 := by kernel_rfl
  i46 := by kernel_rfl
  i51 := by kernel_rfl
  i53 := by kernel_rfl
  i171 := by kernel_rfl
  i173 := by kernel_rfl
  i212 := by kernel_rfl
  i232 := by kernel_rfl
  i233 := by kernel_rfl
  m17 := by kernel_rfl
  m18 := by kernel_rfl
  m19 := by kernel_rfl }
end Go.Proofs.YtlbpjcphhocdkabGreatDoor
