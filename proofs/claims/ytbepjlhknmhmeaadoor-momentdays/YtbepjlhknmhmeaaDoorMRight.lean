/-
  The reference's Right, and package moment's isDay and Days, of any ints.
-/
import Derived.Test.YtbepjlhknmhmeaaDoorMRefL
namespace Go.Proofs.YtbepjlhknmhmeaaDoor
open Go.RowKit Ch
set_option maxRecDepth 100000

/-- Is there such a day? -/
def RightI (y m d : Int) : Prop := 1 ≤ y ∧ y ≤ 9999 ∧ 1 ≤ m ∧ m ≤ 12 ∧ 1 ≤ d ∧ d ≤ (lenM y.toNat m.toNat : Int)
instance (y m d : Int) : Decidable (RightI y m d) := by unfold RightI; infer_instance
theorem right_nat {y m d : Int} (h : RightI y m d) : ∃ Y M D : Nat, y = (Y : Int) ∧ m = (M : Int) ∧ d = (D : Int) ∧ IsDay Y M D := by
  obtain ⟨h1, h2, h3, h4, h5, h6⟩ := h
  exact ⟨y.toNat, m.toNat, d.toNat, by omega, by omega, by omega, ⟨by omega, by omega⟩, ⟨by omega, by omega⟩, by omega, by omega⟩
theorem right_of {y m d : Nat} (h : IsDay y m d) : RightI (y : Int) (m : Int) (d : Int) := by
  obtain ⟨⟨h1, h2⟩, ⟨h3, h4⟩, h5, h6⟩ := h
  exact ⟨by omega, by omega, by omega, by omega, by omega, by simpa using h6⟩
set_option maxHeartbeats 8000000 in
theorem mIsDayI (y m d : Int) (w : World) (hT : MTab w) : Calls Tryd.prog 31 #[.int .i64 y, .int .i64 m, .int .i64 d] w fun e w' => e = .returned (.bool (decide (RightI y m d))) ∧ w' = w := by
  by_cases a0 : 1 ≤ y
  case neg =>
    have i0 : decide (1 ≤ y) = false := decide_eq_false a0
    rw [decide_eq_false (show ¬ RightI y m d from fun h => a0 h.1)]
    go_enter Tryd.func31, Tryd.ntmps31
    go_wp2_with fail
    go_ret
    exact ⟨rfl, rfl⟩
  have i0 : decide (1 ≤ y) = true := decide_eq_true a0
  by_cases a1 : y ≤ 9999
  case neg =>
    have i1 : decide (y ≤ 9999) = false := decide_eq_false a1
    rw [decide_eq_false (show ¬ RightI y m d from fun h => a1 h.2.1)]
    go_enter Tryd.func31, Tryd.ntmps31
    go_wp2_with fail
    go_ret
    exact ⟨rfl, rfl⟩
  have i1 : decide (y ≤ 9999) = true := decide_eq_true a1
  by_cases a2 : 1 ≤ m
  case neg =>
    have i2 : decide (1 ≤ m) = false := decide_eq_false a2
    rw [decide_eq_false (show ¬ RightI y m d from fun h => a2 h.2.2.1)]
    go_enter Tryd.func31, Tryd.ntmps31
    go_wp2_with fail
    go_ret
    exact ⟨rfl, rfl⟩
  have i2 : decide (1 ≤ m) = true := decide_eq_true a2
  by_cases a3 : m ≤ 12
  case neg =>
    have i3 : decide (m ≤ 12) = false := decide_eq_false a3
    rw [decide_eq_false (show ¬ RightI y m d from fun h => a3 h.2.2.2.1)]
    go_enter Tryd.func31, Tryd.ntmps31
    go_wp2_with fail
    go_ret
    exact ⟨rfl, rfl⟩
  have i3 : decide (m ≤ 12) = true := decide_eq_true a3
  by_cases a4 : 1 ≤ d
  case neg =>
    have i4 : decide (1 ≤ d) = false := decide_eq_false a4
    rw [decide_eq_false (show ¬ RightI y m d from fun h => a4 h.2.2.2.2.1)]
    go_enter Tryd.func31, Tryd.ntmps31
    go_wp2_with fail
    go_ret
    exact ⟨rfl, rfl⟩
  have i4 : decide (1 ≤ d) = true := decide_eq_true a4
  obtain ⟨Y, rfl⟩ : ∃ Y : Nat, y = (Y : Int) := ⟨y.toNat, by omega⟩
  obtain ⟨M, rfl⟩ : ∃ M : Nat, m = (M : Int) := ⟨m.toNat, by omega⟩
  have hC := mDaysIn_any Y M w (by omega) (by omega) hT
  have hR : RightI (Y : Int) (M : Int) d ↔ d ≤ (lenM Y M : Int) := ⟨fun h => by have := h.2.2.2.2.2; simpa using this, fun h => ⟨a0, a1, a2, a3, a4, by simpa using h⟩⟩
  obtain ⟨l, hl⟩ : ∃ l, lenM Y M = l := ⟨_, rfl⟩
  rw [hl] at hC hR
  by_cases a5 : d ≤ (l : Int)
  · have i5 : decide (d ≤ (l : Int)) = true := decide_eq_true a5
    rw [decide_eq_true (hR.2 a5)]
    clear hl hR
    go_enter Tryd.func31, Tryd.ntmps31
    go_wp2_with fail
    refine hC.mono ?_
    rintro e w1 ⟨rfl, rfl⟩
    clear hC
    
    go_wp2_with fail
    go_ret
    exact ⟨rfl, rfl⟩
  · have i5 : decide (d ≤ (l : Int)) = false := decide_eq_false a5
    rw [decide_eq_false (fun h => a5 (hR.1 h))]
    clear hl hR
    go_enter Tryd.func31, Tryd.ntmps31
    go_wp2_with fail
    refine hC.mono ?_
    rintro e w1 ⟨rfl, rfl⟩
    clear hC
    
    go_wp2_with fail
    go_ret
    exact ⟨rfl, rfl⟩
set_option maxHeartbeats 8000000 in
theorem rmRight_any (y m d : Int) (w : World) : Calls Tryd.prog 16 #[.int .i64 y, .int .i64 m, .int .i64 d] w fun e w' => e = .returned (.bool (decide (RightI y m d))) ∧ Below w.heap.size w w' := by
  by_cases a0 : 1 ≤ y
  case neg =>
    have i0 : decide (1 ≤ y) = false := decide_eq_false a0
    rw [decide_eq_false (show ¬ RightI y m d from fun h => a0 h.1)]
    go_enter Tryd.func16, Tryd.ntmps16
    go_wp2_with fail
    go_ret
    exact ⟨rfl, Below.refl _ _⟩
  have i0 : decide (1 ≤ y) = true := decide_eq_true a0
  by_cases a1 : y ≤ 9999
  case neg =>
    have i1 : decide (y ≤ 9999) = false := decide_eq_false a1
    rw [decide_eq_false (show ¬ RightI y m d from fun h => a1 h.2.1)]
    go_enter Tryd.func16, Tryd.ntmps16
    go_wp2_with fail
    go_ret
    exact ⟨rfl, Below.refl _ _⟩
  have i1 : decide (y ≤ 9999) = true := decide_eq_true a1
  by_cases a2 : 1 ≤ m
  case neg =>
    have i2 : decide (1 ≤ m) = false := decide_eq_false a2
    rw [decide_eq_false (show ¬ RightI y m d from fun h => a2 h.2.2.1)]
    go_enter Tryd.func16, Tryd.ntmps16
    go_wp2_with fail
    go_ret
    exact ⟨rfl, Below.refl _ _⟩
  have i2 : decide (1 ≤ m) = true := decide_eq_true a2
  by_cases a3 : m ≤ 12
  case neg =>
    have i3 : decide (m ≤ 12) = false := decide_eq_false a3
    rw [decide_eq_false (show ¬ RightI y m d from fun h => a3 h.2.2.2.1)]
    go_enter Tryd.func16, Tryd.ntmps16
    go_wp2_with fail
    go_ret
    exact ⟨rfl, Below.refl _ _⟩
  have i3 : decide (m ≤ 12) = true := decide_eq_true a3
  by_cases a4 : 1 ≤ d
  case neg =>
    have i4 : decide (1 ≤ d) = false := decide_eq_false a4
    rw [decide_eq_false (show ¬ RightI y m d from fun h => a4 h.2.2.2.2.1)]
    go_enter Tryd.func16, Tryd.ntmps16
    go_wp2_with fail
    go_ret
    exact ⟨rfl, Below.refl _ _⟩
  have i4 : decide (1 ≤ d) = true := decide_eq_true a4
  obtain ⟨Y, rfl⟩ : ∃ Y : Nat, y = (Y : Int) := ⟨y.toNat, by omega⟩
  obtain ⟨M, rfl⟩ : ∃ M : Nat, m = (M : Int) := ⟨m.toNat, by omega⟩
  have hC := rmLength_any Y M w (by omega) (by omega)
  have hR : RightI (Y : Int) (M : Int) d ↔ d ≤ (lenM Y M : Int) := ⟨fun h => by have := h.2.2.2.2.2; simpa using this, fun h => ⟨a0, a1, a2, a3, a4, by simpa using h⟩⟩
  obtain ⟨l, hl⟩ : ∃ l, lenM Y M = l := ⟨_, rfl⟩
  rw [hl] at hC hR
  by_cases a5 : d ≤ (l : Int)
  · have i5 : decide (d ≤ (l : Int)) = true := decide_eq_true a5
    rw [decide_eq_true (hR.2 a5)]
    clear hl hR
    go_enter Tryd.func16, Tryd.ntmps16
    go_wp2_with fail
    refine hC.mono ?_
    rintro e w1 ⟨rfl, b1⟩
    clear hC
    have HB := show Hid (Below w.heap.size w w1) from b1
    clear b1
    go_wp2_with fail
    go_ret
    exact ⟨rfl, HB.out⟩
  · have i5 : decide (d ≤ (l : Int)) = false := decide_eq_false a5
    rw [decide_eq_false (fun h => a5 (hR.1 h))]
    clear hl hR
    go_enter Tryd.func16, Tryd.ntmps16
    go_wp2_with fail
    refine hC.mono ?_
    rintro e w1 ⟨rfl, b1⟩
    clear hC
    have HB := show Hid (Below w.heap.size w w1) from b1
    clear b1
    go_wp2_with fail
    go_ret
    exact ⟨rfl, HB.out⟩
theorem mDaysI_ok (y m d : Int) (Y M D : Nat) (w : World) (hT : MTab w) (hy : y = (Y : Int)) (hm : m = (M : Int)) (hd : d = (D : Int)) (h : IsDay Y M D) : Calls Tryd.prog 15 #[.int .i64 y, .int .i64 m, .int .i64 d] w fun e w' => e = .returned (.tuple #[.int .i64 ((dayN Y M D : Int) - 719162), .int .i64 0]) ∧ w' = w := by
  subst hy hm hd
  exact mDays_ok Y M D w hT h
set_option maxHeartbeats 4000000 in
theorem mDaysI_bad (y m d : Int) (w : World) (hT : MTab w) (h : ¬ RightI y m d) : Calls Tryd.prog 15 #[.int .i64 y, .int .i64 m, .int .i64 d] w fun e w' => e = .returned (.tuple #[.int .i64 0, .int .i64 2]) ∧ w' = w := by
  have hI := mIsDayI y m d w hT
  rw [decide_eq_false h] at hI
  clear hT h
  go_enter Tryd.func15, Tryd.ntmps15
  go_wp2_with fail
  refine hI.mono ?_
  rintro e w5 ⟨rfl, rfl⟩
  go_wp2_with fail
  go_ret2
  exact ⟨rfl, rfl⟩
end Go.Proofs.YtbepjlhknmhmeaaDoor
