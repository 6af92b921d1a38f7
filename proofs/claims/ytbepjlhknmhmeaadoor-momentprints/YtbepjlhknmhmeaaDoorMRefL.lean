/-
  The reference of layer 10: Length.
-/
import Derived.Test.YtbepjlhknmhmeaaDoorMDayN
namespace Go.Proofs.YtbepjlhknmhmeaaDoor
open Go.RowKit Ch
set_option maxRecDepth 100000

set_option maxHeartbeats 8000000 in
theorem rmLength_any (y m : Nat) (w : World) (h1 : 1 ≤ m) (h12 : m ≤ 12) : Calls Tryd.prog 34 #[.int .i64 (y : Int), .int .i64 (m : Int)] w fun e w' => e = .returned (.int .i64 (lenM y m : Int)) ∧ Below w.heap.size w w' := by
  obtain ⟨k, hk⟩ : ∃ k, m = k + 1 := ⟨m - 1, by omega⟩
  have e1 := heap_push_at w (.cells #[.int .i64 31, .int .i64 28, .int .i64 31, .int .i64 30, .int .i64 31, .int .i64 30, .int .i64 31, .int .i64 31, .int .i64 30, .int .i64 31, .int .i64 30, .int .i64 31] 3)
  have b1 := alB w (.cells #[.int .i64 31, .int .i64 28, .int .i64 31, .int .i64 30, .int .i64 31, .int .i64 30, .int .i64 31, .int .i64 31, .int .i64 30, .int .i64 31, .int .i64 30, .int .i64 31] 3)
  obtain ⟨q, hq⟩ : ∃ q, w.heap.size = q := ⟨_, rfl⟩
  obtain ⟨W1, hW1⟩ : ∃ W, w.alloc (.cells #[.int .i64 31, .int .i64 28, .int .i64 31, .int .i64 30, .int .i64 31, .int .i64 30, .int .i64 31, .int .i64 31, .int .i64 30, .int .i64 31, .int .i64 30, .int .i64 31] 3) = W := ⟨_, rfl⟩
  rw [hW1] at e1 b1
  have HB := show Hid (Below w.heap.size w W1) from b1
  have hM := block_cell k e1 (months_at k (by omega))
  rw [hq] at hM
  have ew : wrap64 ((m : Int) - 1) = (k : Int) := by unfold wrap64; omega
  have ew2 : IntKind.i64.wrap ((m : Int) - 1) = (k : Int) := by rw [IntKind.wrap_i64]; omega
  have ek : (k : Int) < 12 := by omega
  have ek0 : (0 : Int) ≤ (k : Int) := by omega
  have hE : (m = 2 → leapB y = false) → lenM y m = (if k + 1 = 2 then 28 else if k + 1 = 4 ∨ k + 1 = 6 ∨ k + 1 = 9 ∨ k + 1 = 11 then 30 else 31 : Nat) := fun hl => by
    subst hk
    unfold lenM
    by_cases h2 : k + 1 = 2
    · rw [if_pos h2, if_pos h2, hl h2]
      rfl
    · rw [if_neg h2, if_neg h2]
  clear b1 e1
  by_cases hm : m = 2
  · have em : ((m : Int) == 2) = true := by rw [hm]; rfl
    have hL29 : leapB y = true → lenM y m = 29 := fun h => by
      unfold lenM
      rw [if_pos hm, if_pos h]
    have hL28 : leapB y = false → W1.cell? ⟨q, k, none⟩ = some (.int .i64 (lenM y m : Int)) := fun h => by rw [hM, hE (fun _ => h)]
    clear hM hE
    obtain ⟨r4, e4, h4⟩ := rest_is y 4
    obtain ⟨r100, e100, h100⟩ := rest_is y 100
    obtain ⟨r400, e400, h400⟩ := rest_is y 400
    simp only [Int.cast_ofNat_Int] at e4 e100 e400
    have hLd := show Hid (leapB y = ((y % 4 == 0 && y % 100 != 0) || y % 400 == 0)) from rfl
    rcases h400 with ⟨h400, rfl⟩ | ⟨h400, c1, c2, c3⟩
    · have HL := show Hid (lenM y m = 29) from hL29 (by rw [hLd.out]; simp [h400])
      clear hL29 hL28 h4 h100 h400 hm hk
      go_enter Tryd.func34, Tryd.ntmps34
      go_wp2_with fail
      go_ret
      exact ⟨by rw [HL.out]; rfl, HB.out⟩
    · rcases h4 with ⟨h4, rfl⟩ | ⟨h4, a1, a2, a3⟩
      · rcases h100 with ⟨h100, rfl⟩ | ⟨h100, b1, b2, b3⟩
        · have gc := hL28 (by rw [hLd.out]; simp [h400, h4, h100])
          clear hL29 hL28 h400 hm hk h4 h100
          go_enter Tryd.func34, Tryd.ntmps34
          go_wp2_with fail
          go_ret
          exact ⟨rfl, HB.out⟩
        · have HL := show Hid (lenM y m = 29) from hL29 (by rw [hLd.out]; simp [h400, h4, h100])
          clear hL29 hL28 h4 h100 h400 hm hk
          go_enter Tryd.func34, Tryd.ntmps34
          go_wp2_with fail
          go_ret
          exact ⟨by rw [HL.out]; rfl, HB.out⟩
      · have gc := hL28 (by rw [hLd.out]; simp [h400, h4])
        clear hL29 hL28 h400 hm hk h4 h100
        go_enter Tryd.func34, Tryd.ntmps34
        go_wp2_with fail
        go_ret
        exact ⟨rfl, HB.out⟩
  · have em : ((m : Int) == 2) = false := beq_eq_false_iff_ne.2 (by omega)
    have gc : W1.cell? ⟨q, k, none⟩ = some (.int .i64 (lenM y m : Int)) := by rw [hM, hE (fun h => absurd h hm)]
    clear hm hk hM hE
    go_enter Tryd.func34, Tryd.ntmps34
    go_wp2_with fail
    go_ret
    exact ⟨rfl, HB.out⟩
end Go.Proofs.YtbepjlhknmhmeaaDoor
