/-
  The program's lengths of the fixed codes.
-/
import Derived.Test.YtbhnlomppobbkaaHR4
import Derived.Shelf.GgClosure.Gives
import Derived.Laws.OwnMore
namespace Go.Proofs.Ytbhnlomppobbkaa
open Go.RowKit Ch
set_option maxRecDepth 100000

/-- A slice of these numbers, of the call's own. -/
def intCells (L : List Nat) : List Value := L.map fun (n : Nat) => .int .i64 (n : Int)
theorem intCells_length (L : List Nat) : (intCells L).length = L.length := by simp [intCells]
theorem info3 : ∃ i, Try.prog.info? 3 = some i ∧ i.zero = some (.int .i64 0) ∧ i.size = 1 ∧ i.bytes = 8 := info_parts (by kernel_rfl)
set_option maxHeartbeats 2000000 in
theorem fixedA_any (sg : Nat) (w : World) (h : sg < 288) : Calls Try.prog 53 #[.int .i64 (sg : Int)] w fun e w' => e = .returned (.int .i64 ((fixC sg).2 : Int)) ∧ w' = w := by
  have hF := hFixedCode_any sg w h
  go_enter Try.func53, Try.ntmps53
  go_wp2_with (go_at_call 20; go_must (refine hF.mono ?_; rintro e w1 ⟨rfl, hw1⟩; rw [hw1]; clear hw1 w1))
  go_wp2
  go_ret
  exact ⟨rfl, rfl⟩
set_option maxHeartbeats 2000000 in
theorem fixedB_any (sg : Nat) (w : World) : Calls Try.prog 54 #[.int .i64 (sg : Int)] w fun e w' => e = .returned (.int .i64 5) ∧ w' = w := by
  go_enter Try.func54, Try.ntmps54
  go_wp2
  go_ret
  exact ⟨rfl, rfl⟩
set_option maxHeartbeats 2000000 in
theorem hLengthsOf_any (g n : Nat) (eg : ∀ args w, (callFunc g args).run Try.prog w = .ok (.enter g args) w) (f : Nat → Nat) (w : World) (hn : n ≤ 400) (hf : ∀ (W : World) (i : Nat), i < n → Calls Try.prog g #[.int .i64 (i : Int)] W fun e w' => e = .returned (.int .i64 (f i : Int)) ∧ w' = W) :
    Calls Try.prog 52 #[.int .i64 (n : Int), .func (.func g) #[] #[]] w fun e w' => (∃ v, e = .returned v ∧ w'.ownsRow w.heap.size 3 1 v n (intCells ((List.range n).map f))) ∧ Below w.heap.size w w' := by
  obtain ⟨i0, hi, hz0, hz1, hz2⟩ := info3
  obtain ⟨w1, hrun, hown, hgr⟩ := run_makeSlice_full (P := Try.prog) (w := w) w.heap.size 35 3 i0 (.int .i64 0) 1 Try.underlying35 hi hz0 hz1 .i64 .i64 n (by omega) (by rw [hz2]; omega) (by unfold maxLen; omega) (Nat.le_refl _)
  obtain ⟨xs, hxs⟩ : ∃ xs, (madeCells (Value.int IntKind.i64 0).cells (n * 1)).toList = xs := ⟨_, rfl⟩
  rw [hxs] at hown
  have hb1 : Below w.heap.size w w1 := (Below.refl _ w).grown hgr (Nat.le_refl _) (fun k e => by cases e)
  have hsz := hgr.size
  clear hxs hgr
  go_enter Try.func52, Try.ntmps52
  go_wp2_with fail
  go_loopw [6, 11] (fun _ t wr => ∃ (k : Nat) (xs : List Value), k ≤ n ∧ t = .int .i64 (k : Int) ∧ wr.ownsRow w.heap.size 3 1 (.slice (some ⟨w.heap.size, 0, none⟩) n n) n xs ∧ Hid (∀ j, j < k → xs[j]? = some (.int .i64 (f j : Int))) ∧ Below w.heap.size w wr) (fun _ t _ => n - (intOf t).toNat)
  case atStart => exact ⟨0, xs, Nat.zero_le _, rfl, hown, fun j h => absurd h (Nat.not_lt_zero _), hb1⟩
  case round =>
    obtain ⟨k, xs, hk, rfl, hown, hj, hb⟩ := hrel
    by_cases hlt : k < n
    · obtain ⟨g', cap, hv, _, hbg, hg, hc, hfz, hset⟩ := own_set hown hlt
      simp only [Value.slice.injEq, Option.some.injEq, Addr.mk.injEq, and_true, true_and] at hv
      obtain ⟨rfl, rfl⟩ := hv
      have hG := hf wr k hlt
      have hxl : xs.length = n := by have := hown.1; omega
      rw [List.getElem?_eq_getElem (by omega)] at hc
      have HS := show Hid (∀ u, (wr.setCell ⟨w.heap.size, k, none⟩ u).ownsRow w.heap.size 3 1 (.slice (some ⟨w.heap.size, 0, none⟩) n n) n (xs.set k u)) from hset
      generalize xs[k] = u0 at hc
      have hjj : Hid (∀ j, j < k + 1 → (xs.set k (.int .i64 (f k : Int)))[j]? = some (.int .i64 (f j : Int))) := by
        intro j hj2
        by_cases e : j = k
        · rw [e, List.getElem?_set_self (by omega)]
        · rw [List.getElem?_set_ne (fun h => e h.symm)]
          exact hj.out j (by omega)
      clear hset hj
      go_wp2_with (go_at_fn g; go_must (refine hG.mono ?_; rintro e w3 ⟨rfl, hw3⟩; rw [hw3]; clear hw3 w3))
      go_wp2_with fail
      go_roundw
      case rel => exact ⟨k + 1, _, by omega, by go_num, HS.out _, hjj, hb.setCell (p := ⟨w.heap.size, k, none⟩) (Nat.le_refl _) _⟩
      case measure => simp [intOf]; omega
    · obtain rfl : k = n := by omega
      have hxl : xs.length = k := by have := hown.1; omega
      have HX : Hid (xs = intCells ((List.range k).map f)) := by
        apply List.ext_getElem?
        intro j
        by_cases h : j < k
        · rw [hj.out j h]
          simp [intCells, h]
        · rw [List.getElem?_eq_none (by omega), List.getElem?_eq_none (by rw [intCells_length]; simp; omega)]
      clear hj
      go_wp2
      go_ret
      refine ⟨⟨_, rfl, ?_⟩, hb⟩
      rw [← HX.out]
      exact hown
end Go.Proofs.Ytbhnlomppobbkaa
