/-
  Layer 10's laws: awake.
-/
import Derived.Test.YtbepjlhknmhmeaaDoorMPrint
import Derived.Test.YtbepjlhknmhmeaaDoorMColl
namespace Go.Proofs.YtbepjlhknmhmeaaDoor
open Go.RowKit Ch
set_option maxRecDepth 100000

theorem mom_zero : MomOf 0 1970 1 1 0 := ⟨by decide, by decide, by decide⟩
theorem parse_a : parseT ⟨#[50, 48, 50, 54, 45, 49, 49, 45, 49, 53, 84, 50, 52, 58, 48, 48, 58, 48, 48, 43, 48, 49, 58, 48, 48]⟩ = (1794783600000, 0) := by
  rw [parseT_bare (by decide) (by decide)]
  unfold parseA
  rw [parse_abc.1, parse_abc.2]
  rfl
theorem parse_b : parseT ⟨#[50, 48, 50, 54, 45, 49, 49, 45, 49, 53, 84, 50, 51, 58, 48, 48, 58, 48, 48, 90]⟩ = (1794783600000, 0) := by
  rw [parseT_bare (by decide) (by decide)]
  unfold parseA
  rw [parse_abc.2]
  rfl
/-- The two tables of the program, and a world that is not empty. -/
structure Laid10 (w : World) : Prop where
  months : MTab w
  pow : P10 w
  some0 : w.heap.size ≠ 0
theorem Laid10.later {w w' : World} (h : Laid10 w) (hb : Below w.heap.size w w') : Laid10 w' := ⟨h.months.later hb, h.pow.later hb, by have := h.some0; have := hb.size; omega⟩
set_option maxHeartbeats 4000000 in
theorem lmAwake_any (w : World) (h : Laid10 w) : Calls Tryd.prog 8 #[] w fun e w' => e = .returned (.bool true) ∧ Below w.heap.size w w' := by
  have hP := mPrint_ok 0 1970 1 1 0 w mom_zero h.months h.pow
  rw [text_zero] at hP
  have HL := show Hid (∀ u, Below w.heap.size w u → Laid10 u) from fun u hu => h.later hu
  clear h
  go_enter Tryd.func8, Tryd.ntmps8
  go_wp2_with fail
  refine hP.mono ?_
  rintro e w1 ⟨rfl, b1⟩
  clear hP
  have hA := mParseT_any ⟨#[50, 48, 50, 54, 45, 49, 49, 45, 49, 53, 84, 50, 52, 58, 48, 48, 58, 48, 48, 43, 48, 49, 58, 48, 48]⟩ w1 (HL.out w1 b1).months (HL.out w1 b1).some0
  rw [parse_a] at hA
  have hA' := show Calls Tryd.prog 13 #[.string ⟨#[50, 48, 50, 54, 45, 49, 49, 45, 49, 53, 84, 50, 52, 58, 48, 48, 58, 48, 48, 43, 48, 49, 58, 48, 48]⟩] w1 fun e w' => e = .returned (.tuple #[.int .i64 1794783600000, .int .i64 0]) ∧ Below w1.heap.size w1 w' from hA
  clear hA
  go_wp2_with fail
  refine hA'.mono ?_
  rintro e w2 ⟨rfl, b2⟩
  clear hA'
  have b12 := bl2 b1 b2
  have hB := mParseT_any ⟨#[50, 48, 50, 54, 45, 49, 49, 45, 49, 53, 84, 50, 51, 58, 48, 48, 58, 48, 48, 90]⟩ w2 (HL.out w2 b12).months (HL.out w2 b12).some0
  rw [parse_b] at hB
  have hB' := show Calls Tryd.prog 13 #[.string ⟨#[50, 48, 50, 54, 45, 49, 49, 45, 49, 53, 84, 50, 51, 58, 48, 48, 58, 48, 48, 90]⟩] w2 fun e w' => e = .returned (.tuple #[.int .i64 1794783600000, .int .i64 0]) ∧ Below w2.heap.size w2 w' from hB
  clear hB b1 b2
  go_wp2_with fail
  refine hB'.mono ?_
  rintro e w3 ⟨rfl, b3⟩
  have HF := show Hid (Below w.heap.size w w3) from bl2 b12 b3
  clear hB' b12 b3 HL
  go_wp2_with fail
  go_ret
  exact ⟨rfl, HF.out⟩
end Go.Proofs.YtbepjlhknmhmeaaDoor
