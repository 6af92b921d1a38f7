/-
  Package moment: Add and Within; the reference's First, Last, Is.
-/
import Derived.Test.YtbepjlhknmhmeaaDoorMAwake
namespace Go.Proofs.YtbepjlhknmhmeaaDoor
open Go.RowKit Ch
set_option maxRecDepth 100000

theorem rmFirst_any (w : World) : Calls Tryd.prog 19 #[] w fun e w' => e = .returned (.int .i64 (-62135596800000)) ∧ w' = w := by
  go_enter Tryd.func19, Tryd.ntmps19
  go_wp2_with fail
  go_ret
  exact ⟨rfl, rfl⟩
theorem rmLast_any (w : World) : Calls Tryd.prog 20 #[] w fun e w' => e = .returned (.int .i64 253402300799999) ∧ w' = w := by
  go_enter Tryd.func20, Tryd.ntmps20
  go_wp2_with fail
  go_ret
  exact ⟨rfl, rfl⟩
set_option maxHeartbeats 2000000 in
theorem rmIs_any (n : Int) (w : World) : Calls Tryd.prog 11 #[.int .i64 n] w fun e w' => e = .returned (.bool (decide (IsMom n))) ∧ w' = w := by
  have hF := rmFirst_any w
  have hL := rmLast_any w
  by_cases h1 : -62135596800000 ≤ n
  · have d1 : decide (-62135596800000 ≤ n) = true := decide_eq_true h1
    by_cases h2 : n ≤ 253402300799999
    · have d2 : decide (n ≤ 253402300799999) = true := decide_eq_true h2
      rw [decide_eq_true (show IsMom n from ⟨h1, h2⟩)]
      go_enter Tryd.func11, Tryd.ntmps11
      go_wp2_with fail
      refine hF.mono ?_
      rintro e w1 ⟨rfl, rfl⟩
      go_wp2_with fail
      refine hL.mono ?_
      rintro e w1 ⟨rfl, rfl⟩
      go_wp2_with fail
      go_ret
      exact ⟨by first | rfl | simp [h1, h2], rfl⟩
    · have d2 : decide (n ≤ 253402300799999) = false := decide_eq_false h2
      rw [decide_eq_false (show ¬ IsMom n from fun h => h2 h.2)]
      go_enter Tryd.func11, Tryd.ntmps11
      go_wp2_with fail
      refine hF.mono ?_
      rintro e w1 ⟨rfl, rfl⟩
      go_wp2_with fail
      refine hL.mono ?_
      rintro e w1 ⟨rfl, rfl⟩
      go_wp2_with fail
      go_ret
      exact ⟨by first | rfl | simp [h1, h2], rfl⟩
  · have d1 : decide (-62135596800000 ≤ n) = false := decide_eq_false h1
    rw [decide_eq_false (show ¬ IsMom n from fun h => h1 h.1)]
    go_enter Tryd.func11, Tryd.ntmps11
    go_wp2_with fail
    refine hF.mono ?_
    rintro e w1 ⟨rfl, rfl⟩
    go_wp2_with fail
    go_ret
    exact ⟨by first | rfl | simp [h1], rfl⟩
/-- May so much be added? -/
def AddOk (ms more : Int) : Prop := IsMom ms ∧ -62135596800000 - ms ≤ more ∧ more ≤ 253402300799999 - ms
instance (ms more : Int) : Decidable (AddOk ms more) := by unfold AddOk; infer_instance
set_option maxHeartbeats 4000000 in
theorem mAdd_any (ms more : Int) (w : World) : Calls Tryd.prog 18 #[.int .i64 ms, .int .i64 more] w fun e w' => e = .returned (.tuple #[.int .i64 (if AddOk ms more then ms + more else 0), .int .i64 (if AddOk ms more then 0 else 21)]) ∧ w' = w := by
  have hI := mIsM ms w
  by_cases h1 : IsMom ms
  case neg =>
    rw [decide_eq_false h1] at hI
    have n1 : ¬ AddOk ms more := fun h => h1 h.1
    rw [if_neg n1, if_neg n1]
    clear n1
    go_enter Tryd.func18, Tryd.ntmps18
    go_wp2_with fail
    refine hI.mono ?_
    rintro e w1 ⟨rfl, rfl⟩
    clear hI
    go_wp2_with fail
    go_ret2
    exact ⟨rfl, rfl⟩
  rw [decide_eq_true h1] at hI
  obtain ⟨A, hA⟩ : ∃ A : Int, -62135596800000 - ms = A := ⟨_, rfl⟩
  obtain ⟨B, hB⟩ : ∃ B : Int, 253402300799999 - ms = B := ⟨_, rfl⟩
  have wA : IntKind.i64.wrap (-62135596800000 - ms) = A := by unfold IsMom at h1; rw [IntKind.wrap_i64]; omega
  have wB : IntKind.i64.wrap (253402300799999 - ms) = B := by unfold IsMom at h1; rw [IntKind.wrap_i64]; omega
  by_cases h2 : more < A
  case pos =>
    have n1 : ¬ AddOk ms more := fun h => by have := h.2.1; omega
    rw [if_neg n1, if_neg n1]
    clear n1 h1 hA hB
    have d2 : decide (more < A) = true := decide_eq_true h2
    go_enter Tryd.func18, Tryd.ntmps18
    go_wp2_with fail
    refine hI.mono ?_
    rintro e w1 ⟨rfl, rfl⟩
    clear hI
    go_wp2_with fail
    go_ret2
    exact ⟨rfl, rfl⟩
  have d2 : decide (more < A) = false := decide_eq_false h2
  by_cases h3 : B < more
  case pos =>
    have n1 : ¬ AddOk ms more := fun h => by have := h.2.2; omega
    rw [if_neg n1, if_neg n1]
    clear n1 h1 hA hB
    have d3 : decide (B < more) = true := decide_eq_true h3
    go_enter Tryd.func18, Tryd.ntmps18
    go_wp2_with fail
    refine hI.mono ?_
    rintro e w1 ⟨rfl, rfl⟩
    clear hI
    go_wp2_with fail
    go_ret2
    exact ⟨rfl, rfl⟩
  have d3 : decide (B < more) = false := decide_eq_false h3
  have n1 : AddOk ms more := ⟨h1, by omega, by omega⟩
  rw [if_pos n1, if_pos n1]
  have wC : IntKind.i64.wrap (ms + more) = ms + more := by unfold IsMom at h1; rw [IntKind.wrap_i64]; omega
  clear n1 h1 hA hB
  go_enter Tryd.func18, Tryd.ntmps18
  go_wp2_with fail
  refine hI.mono ?_
  rintro e w1 ⟨rfl, rfl⟩
  clear hI
  go_wp2_with fail
  go_ret2
  exact ⟨rfl, rfl⟩
/-- May this span be asked? -/
def SpanOk (ms a b k : Int) : Prop := IsMom ms ∧ IsMom a ∧ IsMom b ∧ 0 ≤ k ∧ k ≤ 86400000
instance (ms a b k : Int) : Decidable (SpanOk ms a b k) := by unfold SpanOk; infer_instance
def WithinP (ms a b k : Int) : Prop := SpanOk ms a b k ∧ a - k ≤ ms ∧ ms < b + k
instance (ms a b k : Int) : Decidable (WithinP ms a b k) := by unfold WithinP; infer_instance
set_option maxHeartbeats 8000000 in
theorem mWithin_any (ms a b k : Int) (w : World) : Calls Tryd.prog 21 #[.int .i64 ms, .int .i64 a, .int .i64 b, .int .i64 k] w fun e w' => e = .returned (.bool (decide (WithinP ms a b k))) ∧ w' = w := by
  have hI := mIsM ms w
  have hJ := mIsM a w
  have hK := mIsM b w
  by_cases h1 : IsMom ms
  case neg =>
    rw [decide_eq_false h1] at hI
    rw [decide_eq_false (show ¬ WithinP ms a b k from fun h => h1 h.1.1)]
    go_enter Tryd.func21, Tryd.ntmps21
    go_wp2_with fail
    refine hI.mono ?_
    rintro e w1 ⟨rfl, rfl⟩
    clear hI
    go_wp2_with fail
    go_ret
    exact ⟨rfl, rfl⟩
  rw [decide_eq_true h1] at hI
  by_cases h2 : IsMom a
  case neg =>
    rw [decide_eq_false h2] at hJ
    rw [decide_eq_false (show ¬ WithinP ms a b k from fun h => h2 h.1.2.1)]
    go_enter Tryd.func21, Tryd.ntmps21
    go_wp2_with fail
    refine hI.mono ?_
    rintro e w1 ⟨rfl, rfl⟩
    clear hI
    go_wp2_with fail
    refine hJ.mono ?_
    rintro e w1 ⟨rfl, rfl⟩
    clear hJ
    go_wp2_with fail
    go_ret
    exact ⟨rfl, rfl⟩
  rw [decide_eq_true h2] at hJ
  by_cases h3 : IsMom b
  case neg =>
    rw [decide_eq_false h3] at hK
    rw [decide_eq_false (show ¬ WithinP ms a b k from fun h => h3 h.1.2.2.1)]
    go_enter Tryd.func21, Tryd.ntmps21
    go_wp2_with fail
    refine hI.mono ?_
    rintro e w1 ⟨rfl, rfl⟩
    clear hI
    go_wp2_with fail
    refine hJ.mono ?_
    rintro e w1 ⟨rfl, rfl⟩
    clear hJ
    go_wp2_with fail
    refine hK.mono ?_
    rintro e w1 ⟨rfl, rfl⟩
    clear hK
    go_wp2_with fail
    go_ret
    exact ⟨rfl, rfl⟩
  rw [decide_eq_true h3] at hK
  by_cases h4 : k < 0
  case pos =>
    rw [decide_eq_false (show ¬ WithinP ms a b k from fun h => by have := h.1.2.2.2.1; omega)]
    have d4 : decide (k < 0) = true := decide_eq_true h4
    clear h1 h2 h3
    go_enter Tryd.func21, Tryd.ntmps21
    go_wp2_with fail
    refine hI.mono ?_
    rintro e w1 ⟨rfl, rfl⟩
    clear hI
    go_wp2_with fail
    refine hJ.mono ?_
    rintro e w1 ⟨rfl, rfl⟩
    clear hJ
    go_wp2_with fail
    refine hK.mono ?_
    rintro e w1 ⟨rfl, rfl⟩
    clear hK
    go_wp2_with fail
    go_ret
    exact ⟨rfl, rfl⟩
  have d4 : decide (k < 0) = false := decide_eq_false h4
  by_cases h5 : 86400000 < k
  case pos =>
    rw [decide_eq_false (show ¬ WithinP ms a b k from fun h => by have := h.1.2.2.2.2; omega)]
    have d5 : decide (86400000 < k) = true := decide_eq_true h5
    clear h1 h2 h3
    go_enter Tryd.func21, Tryd.ntmps21
    go_wp2_with fail
    refine hI.mono ?_
    rintro e w1 ⟨rfl, rfl⟩
    clear hI
    go_wp2_with fail
    refine hJ.mono ?_
    rintro e w1 ⟨rfl, rfl⟩
    clear hJ
    go_wp2_with fail
    refine hK.mono ?_
    rintro e w1 ⟨rfl, rfl⟩
    clear hK
    go_wp2_with fail
    go_ret
    exact ⟨rfl, rfl⟩
  have d5 : decide (86400000 < k) = false := decide_eq_false h5
  have hS : SpanOk ms a b k := ⟨h1, h2, h3, by omega, by omega⟩
  obtain ⟨A, hA⟩ : ∃ A : Int, a - k = A := ⟨_, rfl⟩
  obtain ⟨B, hB⟩ : ∃ B : Int, b + k = B := ⟨_, rfl⟩
  have wA : IntKind.i64.wrap (a - k) = A := by unfold IsMom at h2; rw [IntKind.wrap_i64]; omega
  have wB : IntKind.i64.wrap (b + k) = B := by unfold IsMom at h3; rw [IntKind.wrap_i64]; omega
  by_cases h6 : A ≤ ms
  case neg =>
    rw [decide_eq_false (show ¬ WithinP ms a b k from fun h => by have := h.2.1; omega)]
    have d6 : decide (A ≤ ms) = false := decide_eq_false h6
    clear h1 h2 h3 hS hA hB
    go_enter Tryd.func21, Tryd.ntmps21
    go_wp2_with fail
    refine hI.mono ?_
    rintro e w1 ⟨rfl, rfl⟩
    clear hI
    go_wp2_with fail
    refine hJ.mono ?_
    rintro e w1 ⟨rfl, rfl⟩
    clear hJ
    go_wp2_with fail
    refine hK.mono ?_
    rintro e w1 ⟨rfl, rfl⟩
    clear hK
    go_wp2_with fail
    go_ret
    exact ⟨rfl, rfl⟩
  have d6 : decide (A ≤ ms) = true := decide_eq_true h6
  by_cases h7 : ms < B
  case neg =>
    rw [decide_eq_false (show ¬ WithinP ms a b k from fun h => by have := h.2.2; omega)]
    have d7 : decide (ms < B) = false := decide_eq_false h7
    clear h1 h2 h3 hS hA hB
    go_enter Tryd.func21, Tryd.ntmps21
    go_wp2_with fail
    refine hI.mono ?_
    rintro e w1 ⟨rfl, rfl⟩
    clear hI
    go_wp2_with fail
    refine hJ.mono ?_
    rintro e w1 ⟨rfl, rfl⟩
    clear hJ
    go_wp2_with fail
    refine hK.mono ?_
    rintro e w1 ⟨rfl, rfl⟩
    clear hK
    go_wp2_with fail
    go_ret
    exact ⟨rfl, rfl⟩
  rw [decide_eq_true (show WithinP ms a b k from ⟨hS, by omega, by omega⟩)]
  have d7 : decide (ms < B) = true := decide_eq_true h7
  clear h1 h2 h3 hS hA hB
  go_enter Tryd.func21, Tryd.ntmps21
  go_wp2_with fail
  refine hI.mono ?_
  rintro e w1 ⟨rfl, rfl⟩
  clear hI
  go_wp2_with fail
  refine hJ.mono ?_
  rintro e w1 ⟨rfl, rfl⟩
  clear hJ
  go_wp2_with fail
  refine hK.mono ?_
  rintro e w1 ⟨rfl, rfl⟩
  clear hK
  go_wp2_with fail
  go_ret
  exact ⟨rfl, rfl⟩
end Go.Proofs.YtbepjlhknmhmeaaDoor
