/-
  Package moment: isDay, Days, of whole numbers.
-/
import Derived.Test.YtbepjlhknmhmeaaDoorMDays
namespace Go.Proofs.YtbepjlhknmhmeaaDoor
open Go.RowKit Ch
set_option maxRecDepth 100000

set_option maxHeartbeats 8000000 in
theorem mIsDay_any (y m d : Nat) (w : World) (hT : MTab w) : Calls Tryd.prog 31 #[.int .i64 (y : Int), .int .i64 (m : Int), .int .i64 (d : Int)] w fun e w' => e = .returned (.bool (decide (IsDay y m d))) ∧ w' = w := by
  obtain ⟨b, hb⟩ : ∃ b, decide (IsDay y m d) = b := ⟨_, rfl⟩
  have HB := show Hid (decide (IsDay y m d) = b) from hb
  rw [hb]
  clear hb
  by_cases a1 : 1 ≤ y
  case neg =>
    have i1 : ¬ (1 : Int) ≤ (y : Int) := by omega
    have H := show Hid (b = false) from by rw [← HB.out]; exact decide_eq_false (fun h => a1 h.1.1)
    go_enter Tryd.func31, Tryd.ntmps31
    go_wp2_with fail
    go_ret
    exact ⟨by rw [H.out] <;> rfl, rfl⟩
  have i1 : (1 : Int) ≤ (y : Int) := by omega
  by_cases a2 : y ≤ 9999
  case neg =>
    have i2 : ¬ (y : Int) ≤ 9999 := by omega
    have H := show Hid (b = false) from by rw [← HB.out]; exact decide_eq_false (fun h => a2 h.1.2)
    go_enter Tryd.func31, Tryd.ntmps31
    go_wp2_with fail
    go_ret
    exact ⟨by rw [H.out] <;> rfl, rfl⟩
  have i2 : (y : Int) ≤ 9999 := by omega
  by_cases a3 : 1 ≤ m
  case neg =>
    have i3 : ¬ (1 : Int) ≤ (m : Int) := by omega
    have H := show Hid (b = false) from by rw [← HB.out]; exact decide_eq_false (fun h => a3 h.2.1.1)
    go_enter Tryd.func31, Tryd.ntmps31
    go_wp2_with fail
    go_ret
    exact ⟨by rw [H.out] <;> rfl, rfl⟩
  have i3 : (1 : Int) ≤ (m : Int) := by omega
  by_cases a4 : m ≤ 12
  case neg =>
    have i4 : ¬ (m : Int) ≤ 12 := by omega
    have H := show Hid (b = false) from by rw [← HB.out]; exact decide_eq_false (fun h => a4 h.2.1.2)
    go_enter Tryd.func31, Tryd.ntmps31
    go_wp2_with fail
    go_ret
    exact ⟨by rw [H.out] <;> rfl, rfl⟩
  have i4 : (m : Int) ≤ 12 := by omega
  by_cases a5 : 1 ≤ d
  case neg =>
    have i5 : ¬ (1 : Int) ≤ (d : Int) := by omega
    have H := show Hid (b = false) from by rw [← HB.out]; exact decide_eq_false (fun h => a5 h.2.2.1)
    go_enter Tryd.func31, Tryd.ntmps31
    go_wp2_with fail
    go_ret
    exact ⟨by rw [H.out] <;> rfl, rfl⟩
  have i5 : (1 : Int) ≤ (d : Int) := by omega
  have hD := mDaysIn_any y m w a3 a4 hT
  obtain ⟨l, hl⟩ : ∃ l, lenM y m = l := ⟨_, rfl⟩
  rw [hl] at hD
  by_cases a6 : d ≤ l
  · have i6 : (d : Int) ≤ (l : Int) := by omega
    have H := show Hid (b = true) from by rw [← HB.out]; exact decide_eq_true ⟨⟨a1, a2⟩, ⟨a3, a4⟩, a5, by rw [hl]; exact a6⟩
    clear hl
    go_enter Tryd.func31, Tryd.ntmps31
    go_wp2_with fail
    refine hD.mono ?_
    rintro e w1 ⟨rfl, rfl⟩
    go_wp2_with fail
    go_ret
    exact ⟨by rw [H.out] <;> rfl, rfl⟩
  · have i6 : ¬ (d : Int) ≤ (l : Int) := by omega
    have H := show Hid (b = false) from by rw [← HB.out]; exact decide_eq_false (fun h => a6 (by have := h.2.2.2; omega))
    clear hl
    go_enter Tryd.func31, Tryd.ntmps31
    go_wp2_with fail
    refine hD.mono ?_
    rintro e w1 ⟨rfl, rfl⟩
    go_wp2_with fail
    go_ret
    exact ⟨by rw [H.out] <;> rfl, rfl⟩
theorem aheadY_small {y : Nat} (h : y ≤ 10000) : aheadY y ≤ 4000000 := by
  unfold aheadY
  omega
theorem aheadM_small (y : Nat) : ∀ k, aheadM y k ≤ 31 * k
  | 0 => Nat.le_refl _
  | k + 1 => by
    have := aheadM_small y k
    have := lenM_bounds y (k + 1)
    simp only [aheadM]
    omega
set_option maxHeartbeats 4000000 in
theorem mDays_ok (y m d : Nat) (w : World) (hT : MTab w) (h : IsDay y m d) : Calls Tryd.prog 15 #[.int .i64 (y : Int), .int .i64 (m : Int), .int .i64 (d : Int)] w fun e w' => e = .returned (.tuple #[.int .i64 ((dayN y m d : Int) - 719162), .int .i64 0]) ∧ w' = w := by
  have hI := mIsDay_any y m d w hT
  rw [decide_eq_true h] at hI
  obtain ⟨⟨h1, h2⟩, ⟨h3, h4⟩, h5, h6⟩ := h
  have hA := mAhead_any y w h1 (by omega)
  have hM := mAheadM_any y m w h3 h4 hT
  have s1 := aheadY_small (y := y) (by omega)
  have s2 := aheadM_small y (m - 1)
  have s3 := lenM_bounds y m
  obtain ⟨a, ha⟩ : ∃ a, aheadY y = a := ⟨_, rfl⟩
  obtain ⟨b, hb⟩ : ∃ b, aheadM y (m - 1) = b := ⟨_, rfl⟩
  have HD := show Hid ((dayN y m d : Int) - 719162 = (a : Int) + (b : Int) + (d : Int) - 719163) from by
    show (dayN y m d : Int) - 719162 = (a : Int) + (b : Int) + (d : Int) - 719163
    unfold dayN
    rw [ha, hb]
    omega
  rw [ha] at hA s1
  rw [hb] at hM s2
  have b1 : b ≤ 400 := by omega
  have b2 : d ≤ 31 := by omega
  clear s2 s3 ha hb h1 h2 h3 h4 h5 h6 hT
  have w1 : IntKind.i64.wrap (-719162 + (a : Int)) = -719162 + (a : Int) := by rw [IntKind.wrap_i64]; omega
  have w2 : IntKind.i64.wrap (-719162 + (a : Int) + (b : Int)) = -719162 + (a : Int) + (b : Int) := by rw [IntKind.wrap_i64]; omega
  have w3 : IntKind.i64.wrap (-719162 + (a : Int) + (b : Int) + (d : Int)) = -719162 + (a : Int) + (b : Int) + (d : Int) := by rw [IntKind.wrap_i64]; omega
  have w4 : IntKind.i64.wrap (-719162 + (a : Int) + (b : Int) + (d : Int) - 1) = (a : Int) + (b : Int) + (d : Int) - 719163 := by rw [IntKind.wrap_i64]; omega
  rw [HD.out]
  clear s1 b1 b2
  go_enter Tryd.func15, Tryd.ntmps15
  go_wp2_with fail
  refine hI.mono ?_
  rintro e w5 ⟨rfl, rfl⟩
  go_wp2_with fail
  refine hA.mono ?_
  rintro e w6 ⟨rfl, rfl⟩
  go_wp2_with fail
  refine hM.mono ?_
  rintro e w7 ⟨rfl, rfl⟩
  go_wp2_with fail
  go_ret2
  exact ⟨rfl, rfl⟩
set_option maxHeartbeats 4000000 in
theorem mDays_bad (y m d : Nat) (w : World) (hT : MTab w) (h : ¬ IsDay y m d) : Calls Tryd.prog 15 #[.int .i64 (y : Int), .int .i64 (m : Int), .int .i64 (d : Int)] w fun e w' => e = .returned (.tuple #[.int .i64 0, .int .i64 2]) ∧ w' = w := by
  have hI := mIsDay_any y m d w hT
  rw [decide_eq_false h] at hI
  clear hT h
  go_enter Tryd.func15, Tryd.ntmps15
  go_wp2_with fail
  refine hI.mono ?_
  rintro e w5 ⟨rfl, rfl⟩
  go_wp2_with fail
  go_ret2
  exact ⟨rfl, rfl⟩
end Go.Proofs.YtbepjlhknmhmeaaDoor
