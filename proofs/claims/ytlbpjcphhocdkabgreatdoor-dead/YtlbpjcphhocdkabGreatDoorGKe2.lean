/-A message of the harness: it joins the queue of its station just if there is room. -/
import Derived.Test.YtlbpjcphhocdkabGreatDoorGKe
namespace Go.Proofs.YtlbpjcphhocdkabGreatDoor
set_option maxRecDepth 1000000
open Go.RowKit Go.Proofs.YtlbpjcphhocdkabGreatDoor.Mod Go.Proofs.YtlbpjcphhocdkabGreatDoor.Pst Go.Proofs.YtlbpjcphhocdkabGreatDoor.Run

def Ts1 (A : RA) (st : Int) (hd tx : ByteArray) (cl : Bool) (a : Act) : Prop := a.defers = [] ∧ a.tmps = List.toArray (.pointer (some ⟨A.rb, 0, none⟩) :: .int .i64 st :: a.tmps.getD 2 undef :: .string hd :: .bool cl :: a.tmps.getD 5 undef :: a.tmps.getD 6 undef :: a.tmps.getD 7 undef :: a.tmps.getD 8 undef :: a.tmps.getD 9 undef :: .pointer (some ⟨sideB A st, 0, none⟩) :: .string tx :: a.tmps.getD 12 undef :: a.tmps.getD 13 undef :: a.tmps.getD 14 undef :: a.tmps.getD 15 undef :: a.tmps.getD 16 undef :: a.tmps.getD 17 undef :: a.tmps.getD 18 undef :: a.tmps.getD 19 undef :: a.tmps.getD 20 undef :: a.tmps.getD 21 undef :: a.tmps.getD 22 undef :: a.tmps.getD 23 undef :: a.tmps.getD 24 undef :: a.tmps.getD 25 undef :: a.tmps.getD 26 undef :: a.tmps.getD 27 undef :: a.tmps.getD 28 undef :: a.tmps.getD 29 undef :: a.tmps.getD 30 undef :: a.tmps.getD 31 undef :: a.tmps.getD 32 undef :: a.tmps.getD 33 undef :: a.tmps.getD 34 undef :: a.tmps.getD 35 undef :: a.tmps.getD 36 undef :: a.tmps.getD 37 undef :: a.tmps.getD 38 undef :: a.tmps.getD 39 undef :: a.tmps.getD 40 undef :: a.tmps.getD 41 undef :: a.tmps.getD 42 undef :: a.tmps.getD 43 undef :: a.tmps.getD 44 undef :: a.tmps.getD 45 undef :: a.tmps.getD 46 undef :: a.tmps.getD 47 undef :: a.tmps.getD 48 undef :: a.tmps.getD 49 undef :: a.tmps.getD 50 undef :: a.tmps.getD 51 undef :: a.tmps.getD 52 undef :: a.tmps.getD 53 undef :: a.tmps.getD 54 undef :: a.tmps.getD 55 undef :: a.tmps.getD 56 undef :: a.tmps.getD 57 undef :: a.tmps.getD 58 undef :: a.tmps.getD 59 undef :: a.tmps.getD 60 undef :: a.tmps.getD 61 undef :: a.tmps.getD 62 undef :: a.tmps.getD 63 undef :: a.tmps.getD 64 undef :: a.tmps.getD 65 undef :: a.tmps.getD 66 undef :: a.tmps.getD 67 undef :: a.tmps.getD 68 undef :: a.tmps.getD 69 undef :: a.tmps.getD 70 undef :: a.tmps.getD 71 undef :: a.tmps.getD 72 undef :: a.tmps.getD 73 undef :: a.tmps.getD 74 undef :: a.tmps.getD 75 undef :: a.tmps.getD 76 undef :: a.tmps.getD 77 undef :: a.tmps.getD 78 undef :: a.tmps.getD 79 undef :: a.tmps.getD 80 undef :: a.tmps.getD 81 undef :: a.tmps.getD 82 undef :: a.tmps.getD 83 undef :: a.tmps.getD 84 undef :: a.tmps.getD 85 undef :: a.tmps.getD 86 undef :: a.tmps.getD 87 undef :: a.tmps.getD 88 undef :: a.tmps.getD 89 undef :: a.tmps.getD 90 undef :: a.tmps.getD 91 undef :: a.tmps.getD 92 undef :: a.tmps.getD 93 undef :: a.tmps.getD 94 undef :: a.tmps.getD 95 undef :: a.tmps.getD 96 undef :: a.tmps.getD 97 undef :: a.tmps.getD 98 undef :: a.tmps.getD 99 undef :: a.tmps.getD 100 undef :: a.tmps.getD 101 undef :: a.tmps.getD 102 undef :: a.tmps.getD 103 undef :: a.tmps.getD 104 undef :: a.tmps.getD 105 undef :: a.tmps.getD 106 undef :: a.tmps.getD 107 undef :: a.tmps.getD 108 undef :: a.tmps.getD 109 undef :: a.tmps.getD 110 undef :: a.tmps.getD 111 undef :: a.tmps.getD 112 undef :: a.tmps.getD 113 undef :: [])
theorem Ts1.use {A : RA} {st : Int} {hd tx : ByteArray} {cl : Bool} {a : Act} (h : Ts1 A st hd tx cl a) : ∃ u : Nat → Value, a = { tmps := List.toArray (.pointer (some ⟨A.rb, 0, none⟩) :: .int .i64 st :: u 2 :: .string hd :: .bool cl :: u 5 :: u 6 :: u 7 :: u 8 :: u 9 :: .pointer (some ⟨sideB A st, 0, none⟩) :: .string tx :: u 12 :: u 13 :: u 14 :: u 15 :: u 16 :: u 17 :: u 18 :: u 19 :: u 20 :: u 21 :: u 22 :: u 23 :: u 24 :: u 25 :: u 26 :: u 27 :: u 28 :: u 29 :: u 30 :: u 31 :: u 32 :: u 33 :: u 34 :: u 35 :: u 36 :: u 37 :: u 38 :: u 39 :: u 40 :: u 41 :: u 42 :: u 43 :: u 44 :: u 45 :: u 46 :: u 47 :: u 48 :: u 49 :: u 50 :: u 51 :: u 52 :: u 53 :: u 54 :: u 55 :: u 56 :: u 57 :: u 58 :: u 59 :: u 60 :: u 61 :: u 62 :: u 63 :: u 64 :: u 65 :: u 66 :: u 67 :: u 68 :: u 69 :: u 70 :: u 71 :: u 72 :: u 73 :: u 74 :: u 75 :: u 76 :: u 77 :: u 78 :: u 79 :: u 80 :: u 81 :: u 82 :: u 83 :: u 84 :: u 85 :: u 86 :: u 87 :: u 88 :: u 89 :: u 90 :: u 91 :: u 92 :: u 93 :: u 94 :: u 95 :: u 96 :: u 97 :: u 98 :: u 99 :: u 100 :: u 101 :: u 102 :: u 103 :: u 104 :: u 105 :: u 106 :: u 107 :: u 108 :: u 109 :: u 110 :: u 111 :: u 112 :: u 113 :: []), defers := [] } := ⟨fun i => a.tmps.getD i undef, by obtain ⟨h1, h2⟩ := h; cases a; simp only at h1 h2; subst h1; exact congrArg (fun t => ({ tmps := t, defers := [] } : Act)) h2⟩
def Ts3 (A : RA) (st : Int) (g : Nat) (a : Act) : Prop := a.defers = [] ∧ a.tmps = List.toArray (.pointer (some ⟨A.rb, 0, none⟩) :: .int .i64 st :: a.tmps.getD 2 undef :: a.tmps.getD 3 undef :: a.tmps.getD 4 undef :: a.tmps.getD 5 undef :: a.tmps.getD 6 undef :: a.tmps.getD 7 undef :: a.tmps.getD 8 undef :: a.tmps.getD 9 undef :: .pointer (some ⟨sideB A st, 0, none⟩) :: a.tmps.getD 11 undef :: a.tmps.getD 12 undef :: a.tmps.getD 13 undef :: .pointer (some ⟨g, 0, none⟩) :: a.tmps.getD 15 undef :: a.tmps.getD 16 undef :: a.tmps.getD 17 undef :: a.tmps.getD 18 undef :: a.tmps.getD 19 undef :: a.tmps.getD 20 undef :: a.tmps.getD 21 undef :: a.tmps.getD 22 undef :: a.tmps.getD 23 undef :: a.tmps.getD 24 undef :: a.tmps.getD 25 undef :: a.tmps.getD 26 undef :: a.tmps.getD 27 undef :: a.tmps.getD 28 undef :: a.tmps.getD 29 undef :: a.tmps.getD 30 undef :: a.tmps.getD 31 undef :: a.tmps.getD 32 undef :: a.tmps.getD 33 undef :: a.tmps.getD 34 undef :: a.tmps.getD 35 undef :: a.tmps.getD 36 undef :: a.tmps.getD 37 undef :: a.tmps.getD 38 undef :: a.tmps.getD 39 undef :: a.tmps.getD 40 undef :: a.tmps.getD 41 undef :: a.tmps.getD 42 undef :: a.tmps.getD 43 undef :: a.tmps.getD 44 undef :: a.tmps.getD 45 undef :: a.tmps.getD 46 undef :: a.tmps.getD 47 undef :: a.tmps.getD 48 undef :: a.tmps.getD 49 undef :: a.tmps.getD 50 undef :: a.tmps.getD 51 undef :: a.tmps.getD 52 undef :: a.tmps.getD 53 undef :: a.tmps.getD 54 undef :: a.tmps.getD 55 undef :: a.tmps.getD 56 undef :: a.tmps.getD 57 undef :: a.tmps.getD 58 undef :: a.tmps.getD 59 undef :: a.tmps.getD 60 undef :: a.tmps.getD 61 undef :: a.tmps.getD 62 undef :: a.tmps.getD 63 undef :: a.tmps.getD 64 undef :: a.tmps.getD 65 undef :: a.tmps.getD 66 undef :: a.tmps.getD 67 undef :: a.tmps.getD 68 undef :: a.tmps.getD 69 undef :: a.tmps.getD 70 undef :: a.tmps.getD 71 undef :: a.tmps.getD 72 undef :: a.tmps.getD 73 undef :: a.tmps.getD 74 undef :: a.tmps.getD 75 undef :: a.tmps.getD 76 undef :: a.tmps.getD 77 undef :: a.tmps.getD 78 undef :: a.tmps.getD 79 undef :: a.tmps.getD 80 undef :: a.tmps.getD 81 undef :: a.tmps.getD 82 undef :: a.tmps.getD 83 undef :: a.tmps.getD 84 undef :: a.tmps.getD 85 undef :: a.tmps.getD 86 undef :: a.tmps.getD 87 undef :: a.tmps.getD 88 undef :: a.tmps.getD 89 undef :: a.tmps.getD 90 undef :: a.tmps.getD 91 undef :: a.tmps.getD 92 undef :: a.tmps.getD 93 undef :: a.tmps.getD 94 undef :: a.tmps.getD 95 undef :: a.tmps.getD 96 undef :: a.tmps.getD 97 undef :: a.tmps.getD 98 undef :: a.tmps.getD 99 undef :: a.tmps.getD 100 undef :: a.tmps.getD 101 undef :: a.tmps.getD 102 undef :: a.tmps.getD 103 undef :: a.tmps.getD 104 undef :: a.tmps.getD 105 undef :: a.tmps.getD 106 undef :: a.tmps.getD 107 undef :: a.tmps.getD 108 undef :: a.tmps.getD 109 undef :: a.tmps.getD 110 undef :: a.tmps.getD 111 undef :: a.tmps.getD 112 undef :: a.tmps.getD 113 undef :: [])
theorem Ts3.use {A : RA} {st : Int} {g : Nat} {a : Act} (h : Ts3 A st g a) : ∃ u : Nat → Value, a = { tmps := List.toArray (.pointer (some ⟨A.rb, 0, none⟩) :: .int .i64 st :: u 2 :: u 3 :: u 4 :: u 5 :: u 6 :: u 7 :: u 8 :: u 9 :: .pointer (some ⟨sideB A st, 0, none⟩) :: u 11 :: u 12 :: u 13 :: .pointer (some ⟨g, 0, none⟩) :: u 15 :: u 16 :: u 17 :: u 18 :: u 19 :: u 20 :: u 21 :: u 22 :: u 23 :: u 24 :: u 25 :: u 26 :: u 27 :: u 28 :: u 29 :: u 30 :: u 31 :: u 32 :: u 33 :: u 34 :: u 35 :: u 36 :: u 37 :: u 38 :: u 39 :: u 40 :: u 41 :: u 42 :: u 43 :: u 44 :: u 45 :: u 46 :: u 47 :: u 48 :: u 49 :: u 50 :: u 51 :: u 52 :: u 53 :: u 54 :: u 55 :: u 56 :: u 57 :: u 58 :: u 59 :: u 60 :: u 61 :: u 62 :: u 63 :: u 64 :: u 65 :: u 66 :: u 67 :: u 68 :: u 69 :: u 70 :: u 71 :: u 72 :: u 73 :: u 74 :: u 75 :: u 76 :: u 77 :: u 78 :: u 79 :: u 80 :: u 81 :: u 82 :: u 83 :: u 84 :: u 85 :: u 86 :: u 87 :: u 88 :: u 89 :: u 90 :: u 91 :: u 92 :: u 93 :: u 94 :: u 95 :: u 96 :: u 97 :: u 98 :: u 99 :: u 100 :: u 101 :: u 102 :: u 103 :: u 104 :: u 105 :: u 106 :: u 107 :: u 108 :: u 109 :: u 110 :: u 111 :: u 112 :: u 113 :: []), defers := [] } := ⟨fun i => a.tmps.getD i undef, by obtain ⟨h1, h2⟩ := h; cases a; simp only at h1 h2; subst h1; exact congrArg (fun t => ({ tmps := t, defers := [] } : Act)) h2⟩
def Ts4 (A : RA) (st : Int) (g : Nat) (i j : Int) (a : Act) : Prop := a.defers = [] ∧ a.tmps = List.toArray (.pointer (some ⟨A.rb, 0, none⟩) :: .int .i64 st :: a.tmps.getD 2 undef :: a.tmps.getD 3 undef :: a.tmps.getD 4 undef :: a.tmps.getD 5 undef :: a.tmps.getD 6 undef :: a.tmps.getD 7 undef :: a.tmps.getD 8 undef :: a.tmps.getD 9 undef :: .pointer (some ⟨sideB A st, 0, none⟩) :: a.tmps.getD 11 undef :: a.tmps.getD 12 undef :: a.tmps.getD 13 undef :: .pointer (some ⟨g, 0, none⟩) :: .int .i64 i :: .int .i64 j :: a.tmps.getD 17 undef :: a.tmps.getD 18 undef :: a.tmps.getD 19 undef :: a.tmps.getD 20 undef :: a.tmps.getD 21 undef :: a.tmps.getD 22 undef :: a.tmps.getD 23 undef :: a.tmps.getD 24 undef :: a.tmps.getD 25 undef :: a.tmps.getD 26 undef :: a.tmps.getD 27 undef :: a.tmps.getD 28 undef :: a.tmps.getD 29 undef :: a.tmps.getD 30 undef :: a.tmps.getD 31 undef :: a.tmps.getD 32 undef :: a.tmps.getD 33 undef :: a.tmps.getD 34 undef :: a.tmps.getD 35 undef :: a.tmps.getD 36 undef :: a.tmps.getD 37 undef :: a.tmps.getD 38 undef :: a.tmps.getD 39 undef :: a.tmps.getD 40 undef :: a.tmps.getD 41 undef :: a.tmps.getD 42 undef :: a.tmps.getD 43 undef :: a.tmps.getD 44 undef :: a.tmps.getD 45 undef :: a.tmps.getD 46 undef :: a.tmps.getD 47 undef :: a.tmps.getD 48 undef :: a.tmps.getD 49 undef :: a.tmps.getD 50 undef :: a.tmps.getD 51 undef :: a.tmps.getD 52 undef :: a.tmps.getD 53 undef :: a.tmps.getD 54 undef :: a.tmps.getD 55 undef :: a.tmps.getD 56 undef :: a.tmps.getD 57 undef :: a.tmps.getD 58 undef :: a.tmps.getD 59 undef :: a.tmps.getD 60 undef :: a.tmps.getD 61 undef :: a.tmps.getD 62 undef :: a.tmps.getD 63 undef :: a.tmps.getD 64 undef :: a.tmps.getD 65 undef :: a.tmps.getD 66 undef :: a.tmps.getD 67 undef :: a.tmps.getD 68 undef :: a.tmps.getD 69 undef :: a.tmps.getD 70 undef :: a.tmps.getD 71 undef :: a.tmps.getD 72 undef :: a.tmps.getD 73 undef :: a.tmps.getD 74 undef :: a.tmps.getD 75 undef :: a.tmps.getD 76 undef :: a.tmps.getD 77 undef :: a.tmps.getD 78 undef :: a.tmps.getD 79 undef :: a.tmps.getD 80 undef :: a.tmps.getD 81 undef :: a.tmps.getD 82 undef :: a.tmps.getD 83 undef :: a.tmps.getD 84 undef :: a.tmps.getD 85 undef :: a.tmps.getD 86 undef :: a.tmps.getD 87 undef :: a.tmps.getD 88 undef :: a.tmps.getD 89 undef :: a.tmps.getD 90 undef :: a.tmps.getD 91 undef :: a.tmps.getD 92 undef :: a.tmps.getD 93 undef :: a.tmps.getD 94 undef :: a.tmps.getD 95 undef :: a.tmps.getD 96 undef :: a.tmps.getD 97 undef :: a.tmps.getD 98 undef :: a.tmps.getD 99 undef :: a.tmps.getD 100 undef :: a.tmps.getD 101 undef :: a.tmps.getD 102 undef :: a.tmps.getD 103 undef :: a.tmps.getD 104 undef :: a.tmps.getD 105 undef :: a.tmps.getD 106 undef :: a.tmps.getD 107 undef :: a.tmps.getD 108 undef :: a.tmps.getD 109 undef :: a.tmps.getD 110 undef :: a.tmps.getD 111 undef :: a.tmps.getD 112 undef :: a.tmps.getD 113 undef :: [])
theorem Ts4.use {A : RA} {st : Int} {g : Nat} {i j : Int} {a : Act} (h : Ts4 A st g i j a) : ∃ u : Nat → Value, a = { tmps := List.toArray (.pointer (some ⟨A.rb, 0, none⟩) :: .int .i64 st :: u 2 :: u 3 :: u 4 :: u 5 :: u 6 :: u 7 :: u 8 :: u 9 :: .pointer (some ⟨sideB A st, 0, none⟩) :: u 11 :: u 12 :: u 13 :: .pointer (some ⟨g, 0, none⟩) :: .int .i64 i :: .int .i64 j :: u 17 :: u 18 :: u 19 :: u 20 :: u 21 :: u 22 :: u 23 :: u 24 :: u 25 :: u 26 :: u 27 :: u 28 :: u 29 :: u 30 :: u 31 :: u 32 :: u 33 :: u 34 :: u 35 :: u 36 :: u 37 :: u 38 :: u 39 :: u 40 :: u 41 :: u 42 :: u 43 :: u 44 :: u 45 :: u 46 :: u 47 :: u 48 :: u 49 :: u 50 :: u 51 :: u 52 :: u 53 :: u 54 :: u 55 :: u 56 :: u 57 :: u 58 :: u 59 :: u 60 :: u 61 :: u 62 :: u 63 :: u 64 :: u 65 :: u 66 :: u 67 :: u 68 :: u 69 :: u 70 :: u 71 :: u 72 :: u 73 :: u 74 :: u 75 :: u 76 :: u 77 :: u 78 :: u 79 :: u 80 :: u 81 :: u 82 :: u 83 :: u 84 :: u 85 :: u 86 :: u 87 :: u 88 :: u 89 :: u 90 :: u 91 :: u 92 :: u 93 :: u 94 :: u 95 :: u 96 :: u 97 :: u 98 :: u 99 :: u 100 :: u 101 :: u 102 :: u 103 :: u 104 :: u 105 :: u 106 :: u 107 :: u 108 :: u 109 :: u 110 :: u 111 :: u 112 :: u 113 :: []), defers := [] } := ⟨fun i => a.tmps.getD i undef, by obtain ⟨h1, h2⟩ := h; cases a; simp only at h1 h2; subst h1; exact congrArg (fun t => ({ tmps := t, defers := [] } : Act)) h2⟩
def Ts5  (a : Act) : Prop := a.defers = [] ∧ a.tmps = List.toArray (a.tmps.getD 0 undef :: a.tmps.getD 1 undef :: a.tmps.getD 2 undef :: a.tmps.getD 3 undef :: a.tmps.getD 4 undef :: a.tmps.getD 5 undef :: a.tmps.getD 6 undef :: a.tmps.getD 7 undef :: a.tmps.getD 8 undef :: a.tmps.getD 9 undef :: a.tmps.getD 10 undef :: a.tmps.getD 11 undef :: a.tmps.getD 12 undef :: a.tmps.getD 13 undef :: a.tmps.getD 14 undef :: a.tmps.getD 15 undef :: a.tmps.getD 16 undef :: a.tmps.getD 17 undef :: a.tmps.getD 18 undef :: a.tmps.getD 19 undef :: a.tmps.getD 20 undef :: a.tmps.getD 21 undef :: a.tmps.getD 22 undef :: a.tmps.getD 23 undef :: a.tmps.getD 24 undef :: a.tmps.getD 25 undef :: a.tmps.getD 26 undef :: a.tmps.getD 27 undef :: a.tmps.getD 28 undef :: a.tmps.getD 29 undef :: a.tmps.getD 30 undef :: a.tmps.getD 31 undef :: a.tmps.getD 32 undef :: a.tmps.getD 33 undef :: a.tmps.getD 34 undef :: a.tmps.getD 35 undef :: a.tmps.getD 36 undef :: a.tmps.getD 37 undef :: a.tmps.getD 38 undef :: a.tmps.getD 39 undef :: a.tmps.getD 40 undef :: a.tmps.getD 41 undef :: a.tmps.getD 42 undef :: a.tmps.getD 43 undef :: a.tmps.getD 44 undef :: a.tmps.getD 45 undef :: a.tmps.getD 46 undef :: a.tmps.getD 47 undef :: a.tmps.getD 48 undef :: a.tmps.getD 49 undef :: a.tmps.getD 50 undef :: a.tmps.getD 51 undef :: a.tmps.getD 52 undef :: a.tmps.getD 53 undef :: a.tmps.getD 54 undef :: a.tmps.getD 55 undef :: a.tmps.getD 56 undef :: a.tmps.getD 57 undef :: a.tmps.getD 58 undef :: a.tmps.getD 59 undef :: a.tmps.getD 60 undef :: a.tmps.getD 61 undef :: a.tmps.getD 62 undef :: a.tmps.getD 63 undef :: a.tmps.getD 64 undef :: a.tmps.getD 65 undef :: a.tmps.getD 66 undef :: a.tmps.getD 67 undef :: a.tmps.getD 68 undef :: a.tmps.getD 69 undef :: a.tmps.getD 70 undef :: a.tmps.getD 71 undef :: a.tmps.getD 72 undef :: a.tmps.getD 73 undef :: a.tmps.getD 74 undef :: a.tmps.getD 75 undef :: a.tmps.getD 76 undef :: a.tmps.getD 77 undef :: a.tmps.getD 78 undef :: a.tmps.getD 79 undef :: a.tmps.getD 80 undef :: a.tmps.getD 81 undef :: a.tmps.getD 82 undef :: a.tmps.getD 83 undef :: a.tmps.getD 84 undef :: a.tmps.getD 85 undef :: a.tmps.getD 86 undef :: a.tmps.getD 87 undef :: a.tmps.getD 88 undef :: a.tmps.getD 89 undef :: a.tmps.getD 90 undef :: a.tmps.getD 91 undef :: a.tmps.getD 92 undef :: a.tmps.getD 93 undef :: a.tmps.getD 94 undef :: a.tmps.getD 95 undef :: a.tmps.getD 96 undef :: a.tmps.getD 97 undef :: a.tmps.getD 98 undef :: a.tmps.getD 99 undef :: a.tmps.getD 100 undef :: a.tmps.getD 101 undef :: a.tmps.getD 102 undef :: a.tmps.getD 103 undef :: a.tmps.getD 104 undef :: a.tmps.getD 105 undef :: a.tmps.getD 106 undef :: a.tmps.getD 107 undef :: a.tmps.getD 108 undef :: a.tmps.getD 109 undef :: a.tmps.getD 110 undef :: a.tmps.getD 111 undef :: a.tmps.getD 112 undef :: a.tmps.getD 113 undef :: [])
theorem Ts5.use  {a : Act} (h : Ts5  a) : ∃ u : Nat → Value, a = { tmps := List.toArray (u 0 :: u 1 :: u 2 :: u 3 :: u 4 :: u 5 :: u 6 :: u 7 :: u 8 :: u 9 :: u 10 :: u 11 :: u 12 :: u 13 :: u 14 :: u 15 :: u 16 :: u 17 :: u 18 :: u 19 :: u 20 :: u 21 :: u 22 :: u 23 :: u 24 :: u 25 :: u 26 :: u 27 :: u 28 :: u 29 :: u 30 :: u 31 :: u 32 :: u 33 :: u 34 :: u 35 :: u 36 :: u 37 :: u 38 :: u 39 :: u 40 :: u 41 :: u 42 :: u 43 :: u 44 :: u 45 :: u 46 :: u 47 :: u 48 :: u 49 :: u 50 :: u 51 :: u 52 :: u 53 :: u 54 :: u 55 :: u 56 :: u 57 :: u 58 :: u 59 :: u 60 :: u 61 :: u 62 :: u 63 :: u 64 :: u 65 :: u 66 :: u 67 :: u 68 :: u 69 :: u 70 :: u 71 :: u 72 :: u 73 :: u 74 :: u 75 :: u 76 :: u 77 :: u 78 :: u 79 :: u 80 :: u 81 :: u 82 :: u 83 :: u 84 :: u 85 :: u 86 :: u 87 :: u 88 :: u 89 :: u 90 :: u 91 :: u 92 :: u 93 :: u 94 :: u 95 :: u 96 :: u 97 :: u 98 :: u 99 :: u 100 :: u 101 :: u 102 :: u 103 :: u 104 :: u 105 :: u 106 :: u 107 :: u 108 :: u 109 :: u 110 :: u 111 :: u 112 :: u 113 :: []), defers := [] } := ⟨fun i => a.tmps.getD i undef, by obtain ⟨h1, h2⟩ := h; cases a; simp only at h1 h2; subst h1; exact congrArg (fun t => ({ tmps := t, defers := [] } : Act)) h2⟩

theorem bytes_back (s : ByteArray) : (⟨s.data.toList.toArray⟩ : ByteArray) = s := by simp
def msgOf (hd tx : ByteArray) (cl : Bool) : Msg := ⟨hd.data.toList, tx.data.toList, cl⟩
theorem MsAt.of {w : World} {g : Nat} {hd tx : ByteArray} {cl : Bool} (h : w.heap[g]? = some (.cells #[.string hd, .string tx, .bool cl] 36 (0, 0))) : MsAt w g (msgOf hd tx cl) := by
  unfold MsAt msgOf; simp only [bytes_back]; exact h
theorem msgV_of (hd tx : ByteArray) (cl : Bool) : msgV (msgOf hd tx cl) = .agg #[.string hd, .string tx, .bool cl] := by unfold msgV msgOf; simp only [bytes_back]
/-- A head that may be one. -/
def headFit (hd : ByteArray) : Prop := hd.size ≤ 8 ∧ Blk.hasCtl hd.data.toList = false
theorem headFit.ok {hd : ByteArray} (h : headFit hd) : Blk.headOk hd.data.toList = true := by
  unfold Blk.headOk
  have h1 := h.1
  rw [h.2]
  simp only [Array.length_toList, Bool.and_eq_true, decide_eq_true_eq, Bool.not_false, and_true]
  exact h1
theorem msg_fit {hd tx : ByteArray} {cl : Bool} (h : headFit hd) (ht : tx.size ≤ 200) : MsgFit (msgOf hd tx (cl || Blk.hasCtl tx.data.toList)) := by
  refine ⟨h.ok, ?_, ?_⟩
  · show tx.data.toList.length ≤ 200
    rw [Array.length_toList]; exact ht
  · show (cl || Blk.hasCtl tx.data.toList) = true ∨ Blk.hasCtl tx.data.toList = false
    cases Blk.hasCtl tx.data.toList <;> simp

def Sc1 (A : RA) (st : Int) (hd : ByteArray) (cl : Bool) (w2 : World) (a : Act) (W : World) : Prop := ∃ tx : ByteArray, tx.size ≤ 200 ∧ Ts1 A st hd tx cl a ∧ W = w2
def Sc2 (A : RA) (st : Int) (tx : ByteArray) (cl : Bool) (w2 : World) (a : Act) (W : World) : Prop := ∃ hd : ByteArray, headFit hd ∧ Ts1 A st hd tx cl a ∧ W = w2
def Sc3 (A : RA) (st : Int) (w2 : World) (o : Obj) (a : Act) (W : World) : Prop := Ts3 A st w2.heap.size a ∧ W = w2.alloc o
/-- Behind the message's making. -/
def Sy3 (w : World) (A : RA) (st : Int) (a : Act) (W : World) : Prop := ∃ m g, MsgFit m ∧ Ts3 A st g a ∧ MsAt W g m ∧ w.heap.size ≤ g ∧ Below w.heap.size w W
/-- Behind the append. -/
def Sy5 (w : World) (S : Nat → Prop) (A : RA) (r' : R) (a : Act) (W : World) : Prop := Ts5 a ∧ RunAt W (Plus S w) A r' ∧ Fr S w W
theorem RunAt.castR {w : World} {S : Nat → Prop} {A : RA} {r r' : R} (h : RunAt w S A r) (e : r = r') : RunAt w S A r' := e ▸ h
/-- Behind Submit. -/
def Sy4 (w : World) (S : Nat → Prop) (A : RA) (r : R) (st : Int) (m : Msg) (g : Nat) (a : Act) (W : World) : Prop := Ts4 A st g (submitN r.x st m) (submitE r.x st m) a ∧ RunAt W (Plus S w) A { r with x := submitL r.x st m } ∧ Fr S w W ∧ MsAt W g m

theorem RunAt.wants {w : World} {S : Nat → Prop} {A : RA} {r : R} (h : RunAt w S A r) (st : Int) : (∃ a cap, w.cell? ⟨sideB A st, 0, none⟩ = some (.slice a (sideOf r st).want.length cap)) ∧ w.cell? ⟨sideB A st, 1, none⟩ = some (.int .i64 (sideOf r st).told) ∧ w.frozen? ⟨sideB A st, 0, none⟩ = false ∧ sideB A st < w.heap.size := by
  obtain ⟨col, hC, _⟩ := h
  obtain ⟨hs, _⟩ := hC.side st
  obtain ⟨⟨a, cap, h1, _⟩, h2, _⟩ := hs.all
  refine ⟨⟨a, cap, h1⟩, h2, ?_, hs.lt⟩
  obtain ⟨v, hb, _⟩ := hs
  exact Go.Joins.unfrozen_of_block hb 0
theorem RunAt.wantQ {w : World} {S : Nat → Prop} {A : RA} {r : R} (h : RunAt w S A r) (st : Int) {v : Value} (hv : w.cell? ⟨sideB A st, 0, none⟩ = some v) : w.ownsRow 0 36 3 v (sideOf r st).want.length (mcells (sideOf r st).want) := by
  obtain ⟨col, hC, _⟩ := h
  exact ((hC.side st).1.val hv).1
def saidR (r : R) (st : Int) (m : Msg) : R := if (stnOf r.x st).queue.length < r.x.c.queue then sayR r st m else r
theorem sideOf_x (r : R) (x : Ln) (st : Int) : sideOf { r with x := x } st = sideOf r st := rfl
theorem setSide_x (r : R) (x : Ln) (st : Int) (s : Side) : setSide { r with x := x } st s = { setSide r st s with x := x } := by unfold setSide; split <;> rfl

set_option maxHeartbeats 4000000 in
theorem say_run (S : Nat → Prop) (A : RA) (r : R) (st : Int) (text head : ByteArray) (cl : Bool) (n : Nat) (w : World) (h : RunAt w S A r) (hnS : ∀ g, w.heap.size ≤ g → ¬ S g) (hB : Book r) (hst : st = 0 ∨ st = 1) (ht : Tab w n) (hs1 : text.size ≤ 140737488351300) (hs2 : head.size ≤ 140737488351300)
    (hw : (sideOf r st).want.length ≤ 3000000000000) (j0 : r.x.s0.joined ≤ 100000000000000) (j1 : r.x.s1.joined ≤ 100000000000000) :
    Calls Tryz.prog 11 #[.pointer (some ⟨A.rb, 0, none⟩), .int .i64 st, .string text, .string head, .bool cl] w fun e w' => e = .returned (.tuple #[]) ∧ ∃ m, MsgFit m ∧ RunAt w' (Plus S w) A (saidR r st m) ∧ Fr S w w' := by
  obtain ⟨c0, c11, c12, _⟩ := h.cells
  have HH := hide h
  have hrb := h.lt.1
  obtain ⟨⟨va, vc, d0⟩, d1, _, hgl⟩ := h.wants st
  have wr : IntKind.i64.wrap (((sideOf r st).want.length : Int) + 1) = ((sideOf r st).want.length : Int) + 1 := wrap_in _ (by omega) (by omega)
  have HBk := hide hB
  have HT := hide ht
  have HST := hide hst
  clear h hB ht hst
  go_enter Tryz.func11, Tryz.ntmps11
  go_wp2_with fail
  refine (side_any A st _ c11 c12).mono ?_
  rintro e w1 ⟨rfl, hw1⟩
  obtain rfl := hw1.symm
  go_wp2_with fail
  refine (show Calls Tryz.prog 25 #[.int .i64 (((sideOf r st).want.length : Int) + 1)] w _ from itoa_any ((sideOf r st).want.length + 1) n w (by omega) HT.out).mono ?_
  rintro e w2 ⟨num, rfl, hnum, hb2⟩
  have HB2 := hide hb2
  have hsz2 := hb2.size
  clear hb2 d0 d1 c11 c12 c0
  dsimp only
  go_step
  go_step
  go_step
  go_step
  go_step
  go_step
  go_step
  go_step
  go_step
  go_step
  go_step
  go_step
  go_step
  go_step
  go_step
  go_step
  go_step
  generalize hT0 : num ++ { data := #[58] } ++ text = tt at *
  have htt : tt.size ≤ 140737488351400 := by rw [← hT0, ByteArray.size_append, ByteArray.size_append, show (⟨#[58]⟩ : ByteArray).size = 1 from rfl]; omega
  clear hT0
  refine code_via (Sc1 A st head cl w2) ?_ ?_
  · by_cases h200 : 200 < tt.size
    · have h200' : (200 : Int) < (tt.size : Int) := by omega
      go_wp2
      (try simp only [Exit.inBlock, Exit.then])
      refine ⟨tt.extract 0 200, ?_, ⟨rfl, rfl⟩, rfl⟩
      simp
      omega
    · have h200' : ¬ (200 : Int) < (tt.size : Int) := by omega
      go_wp2
      (try simp only [Exit.inBlock, Exit.then])
      exact ⟨tt, by omega, ⟨rfl, rfl⟩, rfl⟩
  rintro a1 W1 ⟨tx, htx, htk, hw⟩
  obtain rfl := hw.symm
  obtain ⟨u, rfl⟩ := htk.use
  clear htk hw htt tt
  go_wp2_with fail
  refine (kplain_any head _ (by omega)).mono ?_
  rintro e w3 ⟨rfl, hw3⟩
  obtain rfl := hw3.symm
  clear hw3
  dsimp only
  go_step
  go_step
  go_step
  go_step
  go_step
  go_step
  go_step
  go_step
  refine code_via (Sc2 A st tx cl w2) ?_ ?_
  · cases hcc : Blk.hasCtl head.data.toList with
    | true =>
      go_wp2
      (try simp only [Exit.inBlock, Exit.then])
      exact ⟨⟨#[]⟩, ⟨by decide, rfl⟩, ⟨rfl, rfl⟩, rfl⟩
    | false =>
      by_cases h8 : 8 < head.size
      · have h8' : (8 : Int) < (head.size : Int) := by omega
        go_wp2
        (try simp only [Exit.inBlock, Exit.then])
        exact ⟨⟨#[]⟩, ⟨by decide, rfl⟩, ⟨rfl, rfl⟩, rfl⟩
      · have h8' : ¬ (8 : Int) < (head.size : Int) := by omega
        go_wp2
        (try simp only [Exit.inBlock, Exit.then])
        exact ⟨head, ⟨by omega, hcc⟩, ⟨rfl, rfl⟩, rfl⟩
  rintro a1 W1 ⟨hd, hhd, htk, hw⟩
  obtain rfl := hw.symm
  obtain ⟨u, rfl⟩ := htk.use
  clear htk hw
  have HHD := hide hhd
  clear hhd
  go_wp2_with fail
  refine (kplain_any tx _ (by omega)).mono ?_
  rintro e w3 ⟨rfl, hw3⟩
  obtain rfl := hw3.symm
  clear hw3
  dsimp only
  go_step
  go_step
  go_step
  go_step
  go_step
  go_step
  go_step
  go_step
  refine region_only (Sc3 A st w2 (.cells #[.string hd, .string tx, .bool (cl || Blk.hasCtl tx.data.toList)] 36)) ?_ ?_
  · cases cl with
    | true =>
      go_wp2
      exact ⟨⟨rfl, rfl⟩, rfl⟩
    | false =>
      cases hcx : Blk.hasCtl tx.data.toList with
      | true =>
        go_wp2
        exact ⟨⟨rfl, rfl⟩, rfl⟩
      | false =>
        go_wp2
        exact ⟨⟨rfl, rfl⟩, rfl⟩
  rintro a1 W3 ⟨htk, hw⟩
  obtain ⟨u, rfl⟩ := htk.use
  have hm := msg_fit (cl := cl) HHD.out htx
  have hM : MsAt W3 w2.heap.size (msgOf hd tx (cl || Blk.hasCtl tx.data.toList)) := MsAt.of (by rw [hw]; exact heap_alloc_new _ _)
  have hb3 : Below w.heap.size w W3 := by rw [hw]; exact HB2.out.alloc HB2.out.size _
  have hg2 : w.heap.size ≤ w2.heap.size := HB2.out.size
  have hltM := lt_of_block hM
  generalize msgOf hd tx (cl || Blk.hasCtl tx.data.toList) = m at *
  generalize w2.heap.size = g at *
  have HM := hide hM
  have HFt := hide hm
  have HB3 := hide hb3
  have H3 := hide (HH.out.below hb3)
  obtain ⟨c0, _⟩ := H3.out.cells
  obtain ⟨m0, m1, m2⟩ := hM.cells
  have hmh : m.head.length ≤ 140737488352000 := by have := Blk.headOk_le hm.1; omega
  have hmt : m.text.length ≤ 140737488352000 := by have := hm.2.1; omega
  have HnS : Hid (¬ S g) := hnS g hg2
  clear htk hw hM hm hb3 HB2 HHD htx
  go_wp2_with fail
  refine region_only (Sy4 w S A r st m g) ?_ ?_
  · unfold msgV at *
    go_region_held3 (fun W => W.cell? ⟨A.rb, 0, none⟩ = some (.pointer (some ⟨A.xb, 0, none⟩)) ∧ W.cell? ⟨g, 0, none⟩ = some (.string ⟨m.head.toArray⟩) ∧ W.cell? ⟨g, 1, none⟩ = some (.string ⟨m.text.toArray⟩) ∧ W.cell? ⟨g, 2, none⟩ = some (.bool m.clear)) ((first | exact ⟨c0, m0, m1, m2⟩ | exact ⟨h4.cells.1, (World.cell?_of_block (hf4.block _ hltM HnS.out)).trans m0, (World.cell?_of_block (hf4.block _ hltM HnS.out)).trans m1, (World.cell?_of_block (hf4.block _ hltM HnS.out)).trans m2⟩))
      ((go_at_call 27; refine (submitted_run S A r st m _ (RunAt.below H3.out (Below.drew (Below.refl _ _))) HBk.out.good j0 j1 hmh hmt).mono ?_; rintro e w4 ⟨rfl, h4, hf4⟩))
    all_goals exact ⟨⟨rfl, rfl⟩, h4.mono (Plus.of HB3.out.size), (Fr.of_below HB3.out).trans (Fr.mk hf4.os hf4.tape hf4.output hf4.size hf4.block) (fun _ _ k => k), (hf4.block _ hltM HnS.out).trans HM.out⟩
  rintro a4 W4 ⟨htk, h4, hf4, hM4⟩
  clear c0 m0 m1 m2
  obtain ⟨⟨va, vc, d0⟩, d1, fz0, hgl4⟩ := h4.wants st
  obtain ⟨k4, _⟩ := h4.cfg
  rw [show sideOf { r with x := submitL r.x st m } st = sideOf r st from rfl] at d0 d1
  rw [show ({ r with x := submitL r.x st m } : R).x.c = r.x.c from submitL_c _ _ _] at k4
  have hstn : (stnOf r.x st).queue.length + (sideOf r st).told = (sideOf r st).want.length ∧ (stnOf r.x st).joined = (sideOf r st).want.length := by
    rcases HST.out with rfl | rfl
    · exact ⟨HBk.out.a.fit, HBk.out.a.j⟩
    · exact ⟨HBk.out.b.fit, HBk.out.b.j⟩
  have hrb4 := h4.lt.1
  have ws : IntKind.i64.wrap (((sideOf r st).want.length : Int) - ((sideOf r st).told : Int)) = ((sideOf r st).want.length : Int) - ((sideOf r st).told : Int) := wrap_in _ (by omega) (by omega)
  obtain ⟨f1, f2⟩ := (fit_iff m).1 HFt.out
  have hEE : submitE r.x st m = if r.x.c.queue ≤ (stnOf r.x st).queue.length then 8 else 0 := by
    unfold submitE
    rw [if_neg (by have := HST.out; omega), f1, f2]
    simp
  clear f1 f2
  by_cases hfull : r.x.c.queue ≤ (stnOf r.x st).queue.length
  · rw [if_pos hfull] at hEE
    have hNN : submitN r.x st m = 0 := by unfold submitN; rw [if_neg (by rw [hEE]; decide)]
    have hLL : submitL r.x st m = r.x := by unfold submitL; rw [if_neg (by rw [hEE]; decide)]
    have hSS : saidR r st m = r := by unfold saidR; rw [if_neg (by omega)]
    rw [hNN, hEE] at htk
    obtain ⟨u, rfl⟩ := htk.use
    have HK : Hid (∀ n, RunAt (W4.drewN n) (Plus S w) A (saidR r st m) ∧ Fr S w (W4.drewN n)) := fun n => ⟨by rw [hSS]; rw [hLL] at h4; exact h4.below (below_drewN (Below.refl _ _) n), hf4.trans (Fr.of_below (F := fun _ => False) (below_drewN (Below.refl _ _) n)) (fun _ _ k => k.elim)⟩
    have dq : ((r.x.c.queue : Int) ≤ ((sideOf r st).want.length : Int) - ((sideOf r st).told : Int)) := by omega
    clear htk h4 hf4 hM4 hEE hNN hLL hSS hstn hfull
    generalize (sideOf r st).want.length = L at *
    generalize (sideOf r st).told = T at *
    go_wp2_with fail
    go_quiet (fail)
    go_wp2
    refine bodyPost_ret (results_none rfl _ _ _) rfl ?_
    exact ⟨rfl, m, HFt.out, HK.out _⟩
  · rw [if_neg hfull] at hEE
    have hNN : submitN r.x st m = (sideOf r st).want.length + 1 := by unfold submitN; rw [if_pos hEE, hstn.2]
    have hSS : saidR r st m = sayR r st m := by unfold saidR; rw [if_pos (by omega)]
    rw [hNN, hEE] at htk
    obtain ⟨u, rfl⟩ := htk.use
    have dq : ¬ ((r.x.c.queue : Int) ≤ ((sideOf r st).want.length : Int) - ((sideOf r st).told : Int)) := by omega
    have H4 := hide h4
    have HF4 := hide hf4
    have HM4 := hide hM4
    have HSS := hide hSS
    clear htk h4 hf4 hM4 hEE hNN hstn hfull hSS
    go_wp2_with fail
    go_quiet (fail)
    refine exit_at (fun W => RunAt W (Plus S w) A { r with x := submitL r.x st m } ∧ Fr S w W ∧ MsAt W g m) ⟨H4.out.below (below_drewN (Below.refl _ _) nq), HF4.out.trans (Fr.of_below (F := fun _ => False) (below_drewN (Below.refl _ _) nq)) (fun _ _ k => k.elim), HM4.out⟩ ?_
    clear d0 d1 fz0 k4 H4 HF4 HM4 hgl4 hrb4
    rintro W5 ⟨h5, hf5, hM5⟩
    obtain ⟨⟨va, vc, d0⟩, d1, fz0, hgl5⟩ := h5.wants st
    rw [show sideOf { r with x := submitL r.x st m } st = sideOf r st from rfl] at d0 d1
    obtain ⟨m0, m1, m2⟩ := hM5.cells
    have hneW : sideB A st ≠ W5.heap.size := by omega
    have HQ : Hid (W5.ownsRow 0 36 3 (.slice va (sideOf r st).want.length vc) (sideOf r st).want.length (mcells (sideOf r st).want)) := h5.wantQ st d0
    have H5 := hide h5
    have HF5 := hide hf5
    have D0 := hide d0
    obtain ⟨i0, hi, hz0, hz1, hz2⟩ := info_parts Tryz.infoMsg
    clear h5 hf5 hM5 d1
    go_wp2_with fail
    generalize hL : (sideOf r st).want.length = L at *
    refine region_only (Sy5 w S A (saidR r st m)) ?_ ?_
    · go_region_law (refine step_append_foot rfl (.tmp 108) (.tmp 110) 39 rfl 0 36 i0 _ 3 40 Tryz.underlying39 hi hz0 hz1 hz2 rfl (by decide) (.slice va L vc) L (mcells (sideOf r st).want) (by simp [Act.eval]) (World.ownsRow.alloc HQ.out _) ⟨W5.heap.size, 0, none⟩ 1 1 (msgCells m) (by simp [Act.eval]) rfl (cells_new _ _ _) (by intro u hu; simp [msgCells] at hu; rcases hu with rfl | rfl | rfl <;> rfl) (by unfold maxLen; omega) (by omega) (Nat.zero_le _) ?_; intro v' w' hown' hgr' hbk'; rw [← hL] at hown'; obtain ⟨a', cap', hv'⟩ := own_form hown'; obtain ⟨J1, J2⟩ := RunAt.app0 H5.out (Below.drew (Below.allocN (Below.refl _ _) _)) D0.out hgr'; obtain ⟨J3, J5⟩ := RunAt.app (st := st) H5.out (Below.drew (Below.allocN (Below.refl _ _) _)) D0.out hgr' hown' hbk'; subst hv'; have e1 := (J1 0).trans D0.out; have e2 := (J2 0).trans fz0)
      all_goals rw [hL] at J3 J5
      all_goals exact ⟨⟨rfl, rfl⟩, by rw [HSS.out]; exact (J3.mono (Plus.trans HF5.out.size)).castR (by rw [setSide_x]; rfl), HF5.out.trans J5 (fun g hg k => k.elim id (fun y => by omega))⟩
    rintro a6 W6 ⟨htk, h6, hf6⟩
    obtain ⟨u, rfl⟩ := htk.use
    have HK := hide (And.intro h6 hf6)
    clear htk h6 hf6
    go_wp2
    go_end0
    exact ⟨rfl, m, HFt.out, HK.out⟩

end Go.Proofs.YtlbpjcphhocdkabGreatDoor
