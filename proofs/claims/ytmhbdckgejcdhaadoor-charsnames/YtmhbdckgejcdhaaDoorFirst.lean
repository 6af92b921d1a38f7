/-
  The document's first: may a name begin with it?
-/
import Derived.Test.YtmhbdckgejcdhaaDoorBytes
namespace Go.Proofs.YtmhbdckgejcdhaaDoor
open Go.RowKit Ch

def firstL : List (Int × Int) := [(65, 90), (97, 122), (95, 95), (192, 214), (216, 246), (248, 767), (880, 893), (895, 8191), (8204, 8205), (8304, 8591), (11264, 12271), (12289, 55295), (63744, 64975), (65008, 65533), (65536, 983039)]
theorem first_letter (c : Int) : firstL.any (within c) = letterB c := by
  unfold letterB firstL lettersL
  simp only [List.any_cons, List.any_nil]
  generalize within c (65, 90) = a
  generalize within c (97, 122) = b
  generalize within c (95, 95) = d
  cases a <;> cases b <;> cases d <;> rfl

theorem first_at (w : World) (k : Nat) (hk : k < 15) : ∃ p, firstL[k]? = some p ∧ ((w.alloc (.cells #[.int .i64 65, .int .i64 97, .int .i64 95, .int .i64 192, .int .i64 216, .int .i64 248, .int .i64 880, .int .i64 895, .int .i64 8204, .int .i64 8304, .int .i64 11264, .int .i64 12289, .int .i64 63744, .int .i64 65008, .int .i64 65536] 3)).alloc (.cells #[.int .i64 90, .int .i64 122, .int .i64 95, .int .i64 214, .int .i64 246, .int .i64 767, .int .i64 893, .int .i64 8191, .int .i64 8205, .int .i64 8591, .int .i64 12271, .int .i64 55295, .int .i64 64975, .int .i64 65533, .int .i64 983039] 3)).cell? ⟨w.heap.size, k, none⟩ = some (.int .i64 p.1) ∧ ((w.alloc (.cells #[.int .i64 65, .int .i64 97, .int .i64 95, .int .i64 192, .int .i64 216, .int .i64 248, .int .i64 880, .int .i64 895, .int .i64 8204, .int .i64 8304, .int .i64 11264, .int .i64 12289, .int .i64 63744, .int .i64 65008, .int .i64 65536] 3)).alloc (.cells #[.int .i64 90, .int .i64 122, .int .i64 95, .int .i64 214, .int .i64 246, .int .i64 767, .int .i64 893, .int .i64 8191, .int .i64 8205, .int .i64 8591, .int .i64 12271, .int .i64 55295, .int .i64 64975, .int .i64 65533, .int .i64 983039] 3)).cell? ⟨w.heap.size + 1, k, none⟩ = some (.int .i64 p.2) := by
  have b0 : ((w.alloc (.cells #[.int .i64 65, .int .i64 97, .int .i64 95, .int .i64 192, .int .i64 216, .int .i64 248, .int .i64 880, .int .i64 895, .int .i64 8204, .int .i64 8304, .int .i64 11264, .int .i64 12289, .int .i64 63744, .int .i64 65008, .int .i64 65536] 3)).alloc (.cells #[.int .i64 90, .int .i64 122, .int .i64 95, .int .i64 214, .int .i64 246, .int .i64 767, .int .i64 893, .int .i64 8191, .int .i64 8205, .int .i64 8591, .int .i64 12271, .int .i64 55295, .int .i64 64975, .int .i64 65533, .int .i64 983039] 3)).heap[w.heap.size]? = some (.cells #[.int .i64 65, .int .i64 97, .int .i64 95, .int .i64 192, .int .i64 216, .int .i64 248, .int .i64 880, .int .i64 895, .int .i64 8204, .int .i64 8304, .int .i64 11264, .int .i64 12289, .int .i64 63744, .int .i64 65008, .int .i64 65536] 3 (0, 0)) := (heap_push_old _ _ (by simp)).trans (heap_push_at w _)
  have b1 : ((w.alloc (.cells #[.int .i64 65, .int .i64 97, .int .i64 95, .int .i64 192, .int .i64 216, .int .i64 248, .int .i64 880, .int .i64 895, .int .i64 8204, .int .i64 8304, .int .i64 11264, .int .i64 12289, .int .i64 63744, .int .i64 65008, .int .i64 65536] 3)).alloc (.cells #[.int .i64 90, .int .i64 122, .int .i64 95, .int .i64 214, .int .i64 246, .int .i64 767, .int .i64 893, .int .i64 8191, .int .i64 8205, .int .i64 8591, .int .i64 12271, .int .i64 55295, .int .i64 64975, .int .i64 65533, .int .i64 983039] 3)).heap[w.heap.size + 1]? = some (.cells #[.int .i64 90, .int .i64 122, .int .i64 95, .int .i64 214, .int .i64 246, .int .i64 767, .int .i64 893, .int .i64 8191, .int .i64 8205, .int .i64 8591, .int .i64 12271, .int .i64 55295, .int .i64 64975, .int .i64 65533, .int .i64 983039] 3 (0, 0)) := by
    have := heap_push_at (w.alloc (.cells #[.int .i64 65, .int .i64 97, .int .i64 95, .int .i64 192, .int .i64 216, .int .i64 248, .int .i64 880, .int .i64 895, .int .i64 8204, .int .i64 8304, .int .i64 11264, .int .i64 12289, .int .i64 63744, .int .i64 65008, .int .i64 65536] 3)) (.cells #[.int .i64 90, .int .i64 122, .int .i64 95, .int .i64 214, .int .i64 246, .int .i64 767, .int .i64 893, .int .i64 8191, .int .i64 8205, .int .i64 8591, .int .i64 12271, .int .i64 55295, .int .i64 64975, .int .i64 65533, .int .i64 983039] 3)
    simpa using this
  obtain rfl | rfl | rfl | rfl | rfl | rfl | rfl | rfl | rfl | rfl | rfl | rfl | rfl | rfl | rfl : k = 0 ∨ k = 1 ∨ k = 2 ∨ k = 3 ∨ k = 4 ∨ k = 5 ∨ k = 6 ∨ k = 7 ∨ k = 8 ∨ k = 9 ∨ k = 10 ∨ k = 11 ∨ k = 12 ∨ k = 13 ∨ k = 14 := by omega
  · exact ⟨(65, 90), rfl, (cell_of_row _ _ 0 _ _ _ b0).trans rfl, (cell_of_row _ _ 0 _ _ _ b1).trans rfl⟩
  · exact ⟨(97, 122), rfl, (cell_of_row _ _ 1 _ _ _ b0).trans rfl, (cell_of_row _ _ 1 _ _ _ b1).trans rfl⟩
  · exact ⟨(95, 95), rfl, (cell_of_row _ _ 2 _ _ _ b0).trans rfl, (cell_of_row _ _ 2 _ _ _ b1).trans rfl⟩
  · exact ⟨(192, 214), rfl, (cell_of_row _ _ 3 _ _ _ b0).trans rfl, (cell_of_row _ _ 3 _ _ _ b1).trans rfl⟩
  · exact ⟨(216, 246), rfl, (cell_of_row _ _ 4 _ _ _ b0).trans rfl, (cell_of_row _ _ 4 _ _ _ b1).trans rfl⟩
  · exact ⟨(248, 767), rfl, (cell_of_row _ _ 5 _ _ _ b0).trans rfl, (cell_of_row _ _ 5 _ _ _ b1).trans rfl⟩
  · exact ⟨(880, 893), rfl, (cell_of_row _ _ 6 _ _ _ b0).trans rfl, (cell_of_row _ _ 6 _ _ _ b1).trans rfl⟩
  · exact ⟨(895, 8191), rfl, (cell_of_row _ _ 7 _ _ _ b0).trans rfl, (cell_of_row _ _ 7 _ _ _ b1).trans rfl⟩
  · exact ⟨(8204, 8205), rfl, (cell_of_row _ _ 8 _ _ _ b0).trans rfl, (cell_of_row _ _ 8 _ _ _ b1).trans rfl⟩
  · exact ⟨(8304, 8591), rfl, (cell_of_row _ _ 9 _ _ _ b0).trans rfl, (cell_of_row _ _ 9 _ _ _ b1).trans rfl⟩
  · exact ⟨(11264, 12271), rfl, (cell_of_row _ _ 10 _ _ _ b0).trans rfl, (cell_of_row _ _ 10 _ _ _ b1).trans rfl⟩
  · exact ⟨(12289, 55295), rfl, (cell_of_row _ _ 11 _ _ _ b0).trans rfl, (cell_of_row _ _ 11 _ _ _ b1).trans rfl⟩
  · exact ⟨(63744, 64975), rfl, (cell_of_row _ _ 12 _ _ _ b0).trans rfl, (cell_of_row _ _ 12 _ _ _ b1).trans rfl⟩
  · exact ⟨(65008, 65533), rfl, (cell_of_row _ _ 13 _ _ _ b0).trans rfl, (cell_of_row _ _ 13 _ _ _ b1).trans rfl⟩
  · exact ⟨(65536, 983039), rfl, (cell_of_row _ _ 14 _ _ _ b0).trans rfl, (cell_of_row _ _ 14 _ _ _ b1).trans rfl⟩

set_option maxHeartbeats 1000000 in
theorem rFirst_any (r : Int) (w : World) :
    Calls Tryd.prog 26 #[.int .i64 r] w fun e w' => e = .returned (.bool (letterB r)) ∧ Below w.heap.size w w' := by
  go_enter Tryd.func26, Tryd.ntmps26
  go_wp2
  obtain ⟨W, hW⟩ : ∃ W, W = (w.alloc (.cells #[.int .i64 65, .int .i64 97, .int .i64 95, .int .i64 192, .int .i64 216, .int .i64 248, .int .i64 880, .int .i64 895, .int .i64 8204, .int .i64 8304, .int .i64 11264, .int .i64 12289, .int .i64 63744, .int .i64 65008, .int .i64 65536] 3)).alloc (.cells #[.int .i64 90, .int .i64 122, .int .i64 95, .int .i64 214, .int .i64 246, .int .i64 767, .int .i64 893, .int .i64 8191, .int .i64 8205, .int .i64 8591, .int .i64 12271, .int .i64 55295, .int .i64 64975, .int .i64 65533, .int .i64 983039] 3) := ⟨_, rfl⟩
  rw [← hW]
  have hb : Below w.heap.size w W := by rw [hW]; exact ((Below.refl _ w).alloc (Nat.le_refl _) _).alloc (by simp) _
  have hat : Hid (∀ k, k < 15 → ∃ p, firstL[k]? = some p ∧ W.cell? ⟨w.heap.size, k, none⟩ = some (.int .i64 p.1) ∧ W.cell? ⟨w.heap.size + 1, k, none⟩ = some (.int .i64 p.2)) := by rw [hW]; exact first_at w
  clear hW
  go_loop [5] (fun i => ∃ k : Nat, k ≤ 15 ∧ i = .int .i64 k ∧ Hid ((firstL.take k).any (within r) = false)) (fun i => 15 - (intOf i).toNat)
  case atStart => exact ⟨0, by omega, rfl, rfl⟩
  case round =>
    obtain ⟨k, hk, rfl, hp⟩ := hrel
    by_cases hlt : k < 15
    · obtain ⟨⟨lo, hi⟩, hm, c1, c2⟩ := hat.out k hlt
      have hm : Hid (firstL[k]? = some (lo, hi)) := hm
      by_cases h1 : lo ≤ r
      · by_cases h2 : r ≤ hi
        · go_wp2
          go_ret
          exact ⟨ret_bool ((first_letter r).symm.trans (hit_any hm.out h1 h2)).symm, hb⟩
        · go_wp2
          go_round
          case rel => exact ⟨k + 1, by omega, by go_num, miss_step hm.out hp.out (by simp; omega)⟩
          case measure => simp [intOf]; omega
      · go_wp2
        go_round
        case rel => exact ⟨k + 1, by omega, by go_num, miss_step hm.out hp.out (by simp; omega)⟩
        case measure => simp [intOf]; omega
    · obtain rfl : k = 15 := by omega
      go_wp2
      go_ret
      exact ⟨ret_bool ((first_letter r).symm.trans hp.out).symm, hb⟩
end Go.Proofs.YtmhbdckgejcdhaaDoor
