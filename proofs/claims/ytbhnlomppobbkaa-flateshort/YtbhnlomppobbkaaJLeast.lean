/-
  The reference's tables of lengths and distances.
-/
import Derived.Test.YtbhnlomppobbkaaJInt
namespace Go.Proofs.Ytbhnlomppobbkaa
open Go.RowKit Ch
set_option maxRecDepth 100000

def leastC : Array Value := #[.int .i64 3, .int .i64 4, .int .i64 5, .int .i64 6, .int .i64 7, .int .i64 8, .int .i64 9, .int .i64 10, .int .i64 11, .int .i64 13, .int .i64 15, .int .i64 17, .int .i64 19, .int .i64 23, .int .i64 27, .int .i64 31, .int .i64 35, .int .i64 43, .int .i64 51, .int .i64 59, .int .i64 67, .int .i64 83, .int .i64 99, .int .i64 115, .int .i64 131, .int .i64 163, .int .i64 195, .int .i64 227, .int .i64 258]
def leastM : Array Value := #[.int .i64 0, .int .i64 0, .int .i64 0, .int .i64 0, .int .i64 0, .int .i64 0, .int .i64 0, .int .i64 0, .int .i64 1, .int .i64 1, .int .i64 1, .int .i64 1, .int .i64 2, .int .i64 2, .int .i64 2, .int .i64 2, .int .i64 3, .int .i64 3, .int .i64 3, .int .i64 3, .int .i64 4, .int .i64 4, .int .i64 4, .int .i64 4, .int .i64 5, .int .i64 5, .int .i64 5, .int .i64 5, .int .i64 0]
def farC : Array Value := #[.int .i64 1, .int .i64 2, .int .i64 3, .int .i64 4, .int .i64 5, .int .i64 7, .int .i64 9, .int .i64 13, .int .i64 17, .int .i64 25, .int .i64 33, .int .i64 49, .int .i64 65, .int .i64 97, .int .i64 129, .int .i64 193, .int .i64 257, .int .i64 385, .int .i64 513, .int .i64 769, .int .i64 1025, .int .i64 1537, .int .i64 2049, .int .i64 3073, .int .i64 4097, .int .i64 6145, .int .i64 8193, .int .i64 12289, .int .i64 16385, .int .i64 24577]
def farM : Array Value := #[.int .i64 0, .int .i64 0, .int .i64 0, .int .i64 0, .int .i64 1, .int .i64 1, .int .i64 2, .int .i64 2, .int .i64 3, .int .i64 3, .int .i64 4, .int .i64 4, .int .i64 5, .int .i64 5, .int .i64 6, .int .i64 6, .int .i64 7, .int .i64 7, .int .i64 8, .int .i64 8, .int .i64 9, .int .i64 9, .int .i64 10, .int .i64 10, .int .i64 11, .int .i64 11, .int .i64 12, .int .i64 12, .int .i64 13, .int .i64 13]
/-- The least length of a sign's, and its bits more. -/
def leastN (i : Nat) : Nat × Nat := if i = 28 then (258, 0) else (3 + (moreN i 4).1, (moreN i 4).2)
def farN (i : Nat) : Nat × Nat := (1 + (moreN i 2).1, (moreN i 2).2)
theorem ints_at (L : List Nat) (i n : Nat) (h : L[i]? = some n) : (intCells L).toArray[i]? = some (.int .i64 (n : Int)) := by
  rw [List.getElem?_toArray]
  unfold intCells
  rw [List.getElem?_map, h]
  rfl
theorem least_ns : ∀ i : Fin 29, [3, 4, 5, 6, 7, 8, 9, 10, 11, 13, 15, 17, 19, 23, 27, 31, 35, 43, 51, 59, 67, 83, 99, 115, 131, 163, 195, 227, 258][i.val]? = some (leastN i.val).1 ∧ [0, 0, 0, 0, 0, 0, 0, 0, 1, 1, 1, 1, 2, 2, 2, 2, 3, 3, 3, 3, 4, 4, 4, 4, 5, 5, 5, 5, 0][i.val]? = some (leastN i.val).2 := by decide +kernel
theorem far_ns : ∀ i : Fin 30, [1, 2, 3, 4, 5, 7, 9, 13, 17, 25, 33, 49, 65, 97, 129, 193, 257, 385, 513, 769, 1025, 1537, 2049, 3073, 4097, 6145, 8193, 12289, 16385, 24577][i.val]? = some (farN i.val).1 ∧ [0, 0, 0, 0, 1, 1, 2, 2, 3, 3, 4, 4, 5, 5, 6, 6, 7, 7, 8, 8, 9, 9, 10, 10, 11, 11, 12, 12, 13, 13][i.val]? = some (farN i.val).2 := by decide +kernel
theorem least_cells (i : Nat) (h : i < 29) : leastC[i]? = some (.int .i64 ((leastN i).1 : Int)) ∧ leastM[i]? = some (.int .i64 ((leastN i).2 : Int)) :=
  ⟨ints_at _ _ _ (least_ns ⟨i, h⟩).1, ints_at _ _ _ (least_ns ⟨i, h⟩).2⟩
theorem far_cells (i : Nat) (h : i < 30) : farC[i]? = some (.int .i64 ((farN i).1 : Int)) ∧ farM[i]? = some (.int .i64 ((farN i).2 : Int)) :=
  ⟨ints_at _ _ _ (far_ns ⟨i, h⟩).1, ints_at _ _ _ (far_ns ⟨i, h⟩).2⟩
set_option maxHeartbeats 1000000 in
theorem jLeast_any (i : Nat) (w : World) (h : i < 29) : Calls Try.prog 26 #[.int .i64 ((257 + i : Nat) : Int)] w fun e w' => e = .returned (.tuple #[.int .i64 ((leastN i).1 : Int), .int .i64 ((leastN i).2 : Int)]) ∧ Below w.heap.size w w' := by
  obtain ⟨c1, c2⟩ := least_cells i h
  have g1 : ((w.alloc (.cells leastC 3)).alloc (.cells leastM 3)).cell? ⟨w.heap.size, i, none⟩ = some (.int .i64 ((leastN i).1 : Int)) := block_cell i (block_alloc _ (heap_push_at w _)) c1
  have g2 : ((w.alloc (.cells leastC 3)).alloc (.cells leastM 3)).cell? ⟨w.heap.size + 1, i, none⟩ = some (.int .i64 ((leastN i).2 : Int)) := block_cell i (by have := heap_push_at (w.alloc (.cells leastC 3)) (.cells leastM 3); simpa using this) c2
  have hb : Below w.heap.size w ((w.alloc (.cells leastC 3)).alloc (.cells leastM 3)) := ((Below.refl _ w).alloc (Nat.le_refl _) _).alloc (by simp) _
  have e1 : ((257 + i : Nat) : Int) - 257 = (i : Int) := by omega
  have e0 : ((257 + i : Nat) : Int) = 257 + (i : Int) := by omega
  generalize (leastN i).1 = a at *
  generalize (leastN i).2 = b at *
  clear c1 c2
  unfold leastC leastM at g1 g2 hb
  go_enter Try.func26, Try.ntmps26
  go_wp2_with fail
  go_quiet (fail)
  go_wp2_with fail
  go_ret2
  exact ⟨rfl, below_drewN hb nq⟩
set_option maxHeartbeats 1000000 in
theorem jFar_any (i : Nat) (w : World) (h : i < 30) : Calls Try.prog 28 #[.int .i64 (i : Int)] w fun e w' => e = .returned (.tuple #[.int .i64 ((farN i).1 : Int), .int .i64 ((farN i).2 : Int)]) ∧ Below w.heap.size w w' := by
  obtain ⟨c1, c2⟩ := far_cells i h
  have g1 : ((w.alloc (.cells farC 3)).alloc (.cells farM 3)).cell? ⟨w.heap.size, i, none⟩ = some (.int .i64 ((farN i).1 : Int)) := block_cell i (block_alloc _ (heap_push_at w _)) c1
  have g2 : ((w.alloc (.cells farC 3)).alloc (.cells farM 3)).cell? ⟨w.heap.size + 1, i, none⟩ = some (.int .i64 ((farN i).2 : Int)) := block_cell i (by have := heap_push_at (w.alloc (.cells farC 3)) (.cells farM 3); simpa using this) c2
  have hb : Below w.heap.size w ((w.alloc (.cells farC 3)).alloc (.cells farM 3)) := ((Below.refl _ w).alloc (Nat.le_refl _) _).alloc (by simp) _
  generalize (farN i).1 = a at *
  generalize (farN i).2 = b at *
  clear c1 c2
  unfold farC farM at g1 g2 hb
  go_enter Try.func28, Try.ntmps28
  go_wp2_with fail
  go_quiet (fail)
  go_wp2_with fail
  go_ret2
  exact ⟨rfl, below_drewN hb nq⟩
end Go.Proofs.Ytbhnlomppobbkaa
