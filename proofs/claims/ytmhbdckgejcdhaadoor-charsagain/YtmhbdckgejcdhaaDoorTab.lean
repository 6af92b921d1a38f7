/-
  THE TWO TABLES OF NAMES' LETTERS, as the program's text lays them, and what letter and follower answer, for every number.
-/
import Derived.Test.YtmhbdckgejcdhaaDoorLeaf2
import Derived.Laws.Rows
namespace Go.Proofs.YtmhbdckgejcdhaaDoor
open Go.RowKit Ch

def lettersC : Array Value := #[.int .i32 65, .int .i32 90, .int .i32 95, .int .i32 95, .int .i32 97, .int .i32 122, .int .i32 192, .int .i32 214, .int .i32 216, .int .i32 246, .int .i32 248, .int .i32 767, .int .i32 880, .int .i32 893, .int .i32 895, .int .i32 8191, .int .i32 8204, .int .i32 8205, .int .i32 8304, .int .i32 8591, .int .i32 11264, .int .i32 12271, .int .i32 12289, .int .i32 55295, .int .i32 63744, .int .i32 64975, .int .i32 65008, .int .i32 65533, .int .i32 65536, .int .i32 983039]
def followC : Array Value := #[.int .i32 45, .int .i32 46, .int .i32 48, .int .i32 57, .int .i32 183, .int .i32 183, .int .i32 768, .int .i32 879, .int .i32 8255, .int .i32 8256]

theorem miss_step {l : List (Int × Int)} {r : Int} {k : Nat} {p : Int × Int} (hp : l[k]? = some p) (h : (l.take k).any (within r) = false) (hn : ¬ (p.1 ≤ r ∧ r ≤ p.2)) : (l.take (k + 1)).any (within r) = false := by
  rw [List.take_add_one, hp, List.any_append, h]
  simp [within]
  omega
theorem hit_any {l : List (Int × Int)} {r : Int} {k : Nat} {p : Int × Int} (hp : l[k]? = some p) (h1 : p.1 ≤ r) (h2 : r ≤ p.2) : l.any (within r) = true :=
  List.any_eq_true.2 ⟨p, List.mem_of_getElem? hp, decide_eq_true ⟨h1, h2⟩⟩

theorem followC_at0 (w : World) : (Instr.index 58 (.agg followC) (.int .i64 0)).run Tryd.prog w = .ok (.agg #[.int .i32 45, .int .i32 46]) w := by kernel_rfl
theorem followC_at1 (w : World) : (Instr.index 58 (.agg followC) (.int .i64 1)).run Tryd.prog w = .ok (.agg #[.int .i32 48, .int .i32 57]) w := by kernel_rfl
theorem followC_at2 (w : World) : (Instr.index 58 (.agg followC) (.int .i64 2)).run Tryd.prog w = .ok (.agg #[.int .i32 183, .int .i32 183]) w := by kernel_rfl
theorem followC_at3 (w : World) : (Instr.index 58 (.agg followC) (.int .i64 3)).run Tryd.prog w = .ok (.agg #[.int .i32 768, .int .i32 879]) w := by kernel_rfl
theorem followC_at4 (w : World) : (Instr.index 58 (.agg followC) (.int .i64 4)).run Tryd.prog w = .ok (.agg #[.int .i32 8255, .int .i32 8256]) w := by kernel_rfl
theorem followC_at (k : Nat) (hk : k < 5) : ∃ p, moreL[k]? = some p ∧ ∀ w, (Instr.index 58 (.agg followC) (.int .i64 (k : Int))).run Tryd.prog w = .ok (.agg #[.int .i32 p.1, .int .i32 p.2]) w := by
  obtain rfl | rfl | rfl | rfl | rfl : k = 0 ∨ k = 1 ∨ k = 2 ∨ k = 3 ∨ k = 4 := by omega
  · exact ⟨(45, 46), rfl, followC_at0⟩
  · exact ⟨(48, 57), rfl, followC_at1⟩
  · exact ⟨(183, 183), rfl, followC_at2⟩
  · exact ⟨(768, 879), rfl, followC_at3⟩
  · exact ⟨(8255, 8256), rfl, followC_at4⟩
set_option maxHeartbeats 400000 in
theorem cFollower_any (r : Int) (w : World) (t : TypeId) (fr : Nat × Nat) (hg : w.heap[1]? = some (.cells followC t fr)) :
    Calls Tryd.prog 38 #[.int .i32 r] w fun e w' => e = .returned (.bool (moreB r)) ∧ Below w.heap.size w w' := by
  go_enter Tryd.func38, Tryd.ntmps38
  go_wp2_with (refine wpList_load_row rfl 58 _ rfl 1 rfl t _ fr _ hg Tryd.underlying58 rfl (by kernel_rfl) ?_)
  clear hg
  go_loopw [6] (fun i wr => ∃ k : Nat, k ≤ 5 ∧ i = .int .i64 k ∧ Hid ((moreL.take k).any (within r) = false) ∧ Below w.heap.size w wr) (fun i _ => 5 - (intOf i).toNat)
  case atStart => exact ⟨0, by omega, rfl, rfl, Below.refl _ _⟩
  case round =>
    obtain ⟨k, hk, rfl, hp, hb⟩ := hrel
    have hsz := hb.size
    by_cases hlt : k < 5
    · obtain ⟨⟨lo, hi⟩, hm, hx⟩ := followC_at k hlt
      have hm : Hid (moreL[k]? = some (lo, hi)) := hm
      by_cases h1 : lo ≤ r
      · by_cases h2 : r ≤ hi
        · go_wp2
          go_ret
          exact ⟨ret_bool (hit_any hm.out h1 h2).symm, hb.alloc hsz _⟩
        · go_wp2
          go_roundw
          case rel => exact ⟨k + 1, by omega, by go_num, miss_step hm.out hp.out (by simp; omega), hb.alloc hsz _⟩
          case measure => simp [intOf]; omega
      · go_wp2
        go_roundw
        case rel => exact ⟨k + 1, by omega, by go_num, miss_step hm.out hp.out (by simp; omega), hb.alloc hsz _⟩
        case measure => simp [intOf]; omega
    · obtain rfl : k = 5 := by omega
      go_wp2
      go_ret
      exact ⟨ret_bool hp.out.symm, hb⟩

theorem lettersC_at0 (w : World) : (Instr.index 57 (.agg lettersC) (.int .i64 0)).run Tryd.prog w = .ok (.agg #[.int .i32 65, .int .i32 90]) w := by kernel_rfl
theorem lettersC_at1 (w : World) : (Instr.index 57 (.agg lettersC) (.int .i64 1)).run Tryd.prog w = .ok (.agg #[.int .i32 95, .int .i32 95]) w := by kernel_rfl
theorem lettersC_at2 (w : World) : (Instr.index 57 (.agg lettersC) (.int .i64 2)).run Tryd.prog w = .ok (.agg #[.int .i32 97, .int .i32 122]) w := by kernel_rfl
theorem lettersC_at3 (w : World) : (Instr.index 57 (.agg lettersC) (.int .i64 3)).run Tryd.prog w = .ok (.agg #[.int .i32 192, .int .i32 214]) w := by kernel_rfl
theorem lettersC_at4 (w : World) : (Instr.index 57 (.agg lettersC) (.int .i64 4)).run Tryd.prog w = .ok (.agg #[.int .i32 216, .int .i32 246]) w := by kernel_rfl
theorem lettersC_at5 (w : World) : (Instr.index 57 (.agg lettersC) (.int .i64 5)).run Tryd.prog w = .ok (.agg #[.int .i32 248, .int .i32 767]) w := by kernel_rfl
theorem lettersC_at6 (w : World) : (Instr.index 57 (.agg lettersC) (.int .i64 6)).run Tryd.prog w = .ok (.agg #[.int .i32 880, .int .i32 893]) w := by kernel_rfl
theorem lettersC_at7 (w : World) : (Instr.index 57 (.agg lettersC) (.int .i64 7)).run Tryd.prog w = .ok (.agg #[.int .i32 895, .int .i32 8191]) w := by kernel_rfl
theorem lettersC_at8 (w : World) : (Instr.index 57 (.agg lettersC) (.int .i64 8)).run Tryd.prog w = .ok (.agg #[.int .i32 8204, .int .i32 8205]) w := by kernel_rfl
theorem lettersC_at9 (w : World) : (Instr.index 57 (.agg lettersC) (.int .i64 9)).run Tryd.prog w = .ok (.agg #[.int .i32 8304, .int .i32 8591]) w := by kernel_rfl
theorem lettersC_at10 (w : World) : (Instr.index 57 (.agg lettersC) (.int .i64 10)).run Tryd.prog w = .ok (.agg #[.int .i32 11264, .int .i32 12271]) w := by kernel_rfl
theorem lettersC_at11 (w : World) : (Instr.index 57 (.agg lettersC) (.int .i64 11)).run Tryd.prog w = .ok (.agg #[.int .i32 12289, .int .i32 55295]) w := by kernel_rfl
theorem lettersC_at12 (w : World) : (Instr.index 57 (.agg lettersC) (.int .i64 12)).run Tryd.prog w = .ok (.agg #[.int .i32 63744, .int .i32 64975]) w := by kernel_rfl
theorem lettersC_at13 (w : World) : (Instr.index 57 (.agg lettersC) (.int .i64 13)).run Tryd.prog w = .ok (.agg #[.int .i32 65008, .int .i32 65533]) w := by kernel_rfl
theorem lettersC_at14 (w : World) : (Instr.index 57 (.agg lettersC) (.int .i64 14)).run Tryd.prog w = .ok (.agg #[.int .i32 65536, .int .i32 983039]) w := by kernel_rfl
theorem lettersC_at (k : Nat) (hk : k < 15) : ∃ p, lettersL[k]? = some p ∧ ∀ w, (Instr.index 57 (.agg lettersC) (.int .i64 (k : Int))).run Tryd.prog w = .ok (.agg #[.int .i32 p.1, .int .i32 p.2]) w := by
  obtain rfl | rfl | rfl | rfl | rfl | rfl | rfl | rfl | rfl | rfl | rfl | rfl | rfl | rfl | rfl : k = 0 ∨ k = 1 ∨ k = 2 ∨ k = 3 ∨ k = 4 ∨ k = 5 ∨ k = 6 ∨ k = 7 ∨ k = 8 ∨ k = 9 ∨ k = 10 ∨ k = 11 ∨ k = 12 ∨ k = 13 ∨ k = 14 := by omega
  · exact ⟨(65, 90), rfl, lettersC_at0⟩
  · exact ⟨(95, 95), rfl, lettersC_at1⟩
  · exact ⟨(97, 122), rfl, lettersC_at2⟩
  · exact ⟨(192, 214), rfl, lettersC_at3⟩
  · exact ⟨(216, 246), rfl, lettersC_at4⟩
  · exact ⟨(248, 767), rfl, lettersC_at5⟩
  · exact ⟨(880, 893), rfl, lettersC_at6⟩
  · exact ⟨(895, 8191), rfl, lettersC_at7⟩
  · exact ⟨(8204, 8205), rfl, lettersC_at8⟩
  · exact ⟨(8304, 8591), rfl, lettersC_at9⟩
  · exact ⟨(11264, 12271), rfl, lettersC_at10⟩
  · exact ⟨(12289, 55295), rfl, lettersC_at11⟩
  · exact ⟨(63744, 64975), rfl, lettersC_at12⟩
  · exact ⟨(65008, 65533), rfl, lettersC_at13⟩
  · exact ⟨(65536, 983039), rfl, lettersC_at14⟩
set_option maxHeartbeats 400000 in
theorem cLetter_any (r : Int) (w : World) (t : TypeId) (fr : Nat × Nat) (hg : w.heap[0]? = some (.cells lettersC t fr)) :
    Calls Tryd.prog 37 #[.int .i32 r] w fun e w' => e = .returned (.bool (letterB r)) ∧ Below w.heap.size w w' := by
  go_enter Tryd.func37, Tryd.ntmps37
  go_wp2_with (refine wpList_load_row rfl 57 _ rfl 0 rfl t _ fr _ hg Tryd.underlying57 rfl (by kernel_rfl) ?_)
  clear hg
  go_loopw [6] (fun i wr => ∃ k : Nat, k ≤ 15 ∧ i = .int .i64 k ∧ Hid ((lettersL.take k).any (within r) = false) ∧ Below w.heap.size w wr) (fun i _ => 15 - (intOf i).toNat)
  case atStart => exact ⟨0, by omega, rfl, rfl, Below.refl _ _⟩
  case round =>
    obtain ⟨k, hk, rfl, hp, hb⟩ := hrel
    have hsz := hb.size
    by_cases hlt : k < 15
    · obtain ⟨⟨lo, hi⟩, hm, hx⟩ := lettersC_at k hlt
      have hm : Hid (lettersL[k]? = some (lo, hi)) := hm
      by_cases h1 : lo ≤ r
      · by_cases h2 : r ≤ hi
        · go_wp2
          go_ret
          exact ⟨ret_bool (hit_any hm.out h1 h2).symm, hb.alloc hsz _⟩
        · go_wp2
          go_roundw
          case rel => exact ⟨k + 1, by omega, by go_num, miss_step hm.out hp.out (by simp; omega), hb.alloc hsz _⟩
          case measure => simp [intOf]; omega
      · go_wp2
        go_roundw
        case rel => exact ⟨k + 1, by omega, by go_num, miss_step hm.out hp.out (by simp; omega), hb.alloc hsz _⟩
        case measure => simp [intOf]; omega
    · obtain rfl : k = 15 := by omega
      go_wp2
      go_ret
      exact ⟨ret_bool hp.out.symm, hb⟩
end Go.Proofs.YtmhbdckgejcdhaaDoor
