/-
  The law MomentAdds.
-/
import Derived.Test.YtbepjlhknmhmeaaDoorMAdd
namespace Go.Proofs.YtbepjlhknmhmeaaDoor
open Go.RowKit Ch
set_option maxRecDepth 100000

set_option maxHeartbeats 16000000 in
theorem lmAdds_any (ms more a b k : Int) (w : World) (h : Laid10 w) (hwf : IntKind.i64.wrap (ms + more) = ms + more ∨ ¬ AddOk ms more) : Calls Tryd.prog 5 #[.int .i64 ms, .int .i64 more, .agg #[.int .i64 a, .int .i64 b, .int .i64 k]] w fun e w' => e = .returned (.bool true) ∧ Below w.heap.size w w' := by
  have e1 := heap_push_at w (.cells #[.int .i64 a, .int .i64 b, .int .i64 k] 26)
  have b1 := alB w (.cells #[.int .i64 a, .int .i64 b, .int .i64 k] 26)
  obtain ⟨q, hq⟩ : ∃ q, w.heap.size = q := ⟨_, rfl⟩
  obtain ⟨W1, hW1⟩ : ∃ W, w.alloc (.cells #[.int .i64 a, .int .i64 b, .int .i64 k] 26) = W := ⟨_, rfl⟩
  rw [hW1] at e1 b1
  rw [hq] at e1
  have hAw := lmAwake_any W1 (h.later b1)
  have hAdd := fun u => mAdd_any ms more u
  have hW := fun u => mWithin_any ms a b k u
  have hI1 := fun u => rmIs_any ms u
  have hIa := fun u => rmIs_any a u
  have hIb := fun u => rmIs_any b u
  have hFi := fun u => rmFirst_any u
  have hLa := fun u => rmLast_any u
  have HU := show Hid (∀ u, Below W1.heap.size W1 u → u.cell? ⟨q, 0, none⟩ = some (.int .i64 a) ∧ u.cell? ⟨q, 1, none⟩ = some (.int .i64 b) ∧ u.cell? ⟨q, 2, none⟩ = some (.int .i64 k) ∧ Below w.heap.size w u) from fun u hu => by
    have x1 := (hu.block q (block_lt e1)).trans e1
    obtain ⟨c0, c1, c2, _⟩ := cells3 x1
    exact ⟨c0, c1, c2, bl2 b1 hu⟩
  clear h b1 e1
  go_enter Tryd.func5, Tryd.ntmps5
  go_wp2_with fail
  refine hAw.mono ?_
  rintro e w1 ⟨rfl, b1⟩
  have HF := show Hid (Below w.heap.size w w1) from (HU.out w1 b1).2.2.2
  obtain ⟨g0, g1, g2, _⟩ := HU.out w1 b1
  clear hAw b1 HU hW1
  by_cases h1 : IsMom ms
  case neg =>
    have n1 : ¬ AddOk ms more := fun h => h1 h.1
    simp only [if_neg n1] at hAdd
    simp only [decide_eq_false h1] at hI1
    have hW2 := hW w1
    rw [decide_eq_false (show ¬ WithinP ms a b k from fun h => h1 h.1.1)] at hW2
    clear n1 hW hwf
    go_wp2_with fail
    refine (hAdd w1).mono ?_
    rintro e w1 ⟨rfl, rfl⟩
    go_wp2_with fail
    refine (hI1 w1).mono ?_
    rintro e w1 ⟨rfl, rfl⟩
    go_wp2_with fail
    refine hW2.mono ?_
    rintro e w1 ⟨rfl, rfl⟩
    go_wp2_with fail
    refine (hI1 w1).mono ?_
    rintro e w1 ⟨rfl, rfl⟩
    go_wp2_with fail
    go_ret
    exact ⟨by first | rfl | simp, HF.out⟩
  simp only [decide_eq_true h1] at hI1
  obtain ⟨A, hA⟩ : ∃ A : Int, -62135596800000 - ms = A := ⟨_, rfl⟩
  obtain ⟨B, hB⟩ : ∃ B : Int, 253402300799999 - ms = B := ⟨_, rfl⟩
  have wA : IntKind.i64.wrap (-62135596800000 - ms) = A := by unfold IsMom at h1; rw [IntKind.wrap_i64]; omega
  have wB : IntKind.i64.wrap (253402300799999 - ms) = B := by unfold IsMom at h1; rw [IntKind.wrap_i64]; omega
  by_cases g3 : A ≤ more
  case neg =>
    have n1 : ¬ AddOk ms more := fun h => by have := h.2.1; omega
    simp only [if_neg n1] at hAdd
    have d3 : decide (A ≤ more) = false := decide_eq_false g3
    clear n1 hwf hA hB wB
    go_wp2_with fail
    refine (hAdd w1).mono ?_
    rintro e w1 ⟨rfl, rfl⟩
    go_wp2_with fail
    refine (hI1 w1).mono ?_
    rintro e w1 ⟨rfl, rfl⟩
    go_wp2_with fail
    refine (hFi w1).mono ?_
    rintro e w1 ⟨rfl, rfl⟩
    clear hAdd hFi hLa
    by_cases h2 : IsMom a
    case neg =>
      simp only [decide_eq_false h2] at hIa
      have hW2 := hW w1
      rw [decide_eq_false (show ¬ WithinP ms a b k from fun h => h2 h.1.2.1)] at hW2
      clear hW
      go_wp2_with fail
      refine hW2.mono ?_
      rintro e w1 ⟨rfl, rfl⟩
      clear hW2
      go_wp2_with fail
      refine (hI1 w1).mono ?_
      rintro e w1 ⟨rfl, rfl⟩
      go_wp2_with fail
      refine (hIa w1).mono ?_
      rintro e w1 ⟨rfl, rfl⟩
      go_wp2_with fail
      go_ret
      exact ⟨by first | rfl | (simp; done) | (congr 2; simp; done), HF.out⟩
    simp only [decide_eq_true h2] at hIa
    by_cases h3 : IsMom b
    case neg =>
      simp only [decide_eq_false h3] at hIb
      have hW2 := hW w1
      rw [decide_eq_false (show ¬ WithinP ms a b k from fun h => h3 h.1.2.2.1)] at hW2
      clear hW
      go_wp2_with fail
      refine hW2.mono ?_
      rintro e w1 ⟨rfl, rfl⟩
      clear hW2
      go_wp2_with fail
      refine (hI1 w1).mono ?_
      rintro e w1 ⟨rfl, rfl⟩
      go_wp2_with fail
      refine (hIa w1).mono ?_
      rintro e w1 ⟨rfl, rfl⟩
      go_wp2_with fail
      refine (hIb w1).mono ?_
      rintro e w1 ⟨rfl, rfl⟩
      go_wp2_with fail
      go_ret
      exact ⟨by first | rfl | (simp; done) | (congr 2; simp; done), HF.out⟩
    simp only [decide_eq_true h3] at hIb
    by_cases h4 : k < 0
    case pos =>
      have hW2 := hW w1
      rw [decide_eq_false (show ¬ WithinP ms a b k from fun h => by have := h.1.2.2.2.1; omega)] at hW2
      clear hW
      have d4 : decide (k < 0) = true := decide_eq_true h4
      clear h1 h2 h3
      go_wp2_with fail
      refine hW2.mono ?_
      rintro e w1 ⟨rfl, rfl⟩
      clear hW2
      go_wp2_with fail
      refine (hI1 w1).mono ?_
      rintro e w1 ⟨rfl, rfl⟩
      go_wp2_with fail
      refine (hIa w1).mono ?_
      rintro e w1 ⟨rfl, rfl⟩
      go_wp2_with fail
      refine (hIb w1).mono ?_
      rintro e w1 ⟨rfl, rfl⟩
      go_wp2_with fail
      go_ret
      exact ⟨by first | rfl | (simp; done) | (congr 2; simp; done), HF.out⟩
    have d4 : decide (k < 0) = false := decide_eq_false h4
    by_cases h5 : 86400000 < k
    case pos =>
      have hW2 := hW w1
      rw [decide_eq_false (show ¬ WithinP ms a b k from fun h => by have := h.1.2.2.2.2; omega)] at hW2
      clear hW
      have d5 : decide (86400000 < k) = true := decide_eq_true h5
      clear h1 h2 h3
      go_wp2_with fail
      refine hW2.mono ?_
      rintro e w1 ⟨rfl, rfl⟩
      clear hW2
      go_wp2_with fail
      refine (hI1 w1).mono ?_
      rintro e w1 ⟨rfl, rfl⟩
      go_wp2_with fail
      refine (hIa w1).mono ?_
      rintro e w1 ⟨rfl, rfl⟩
      go_wp2_with fail
      refine (hIb w1).mono ?_
      rintro e w1 ⟨rfl, rfl⟩
      go_wp2_with fail
      go_ret
      exact ⟨by first | rfl | (simp; done) | (congr 2; simp; done), HF.out⟩
    have d5 : decide (86400000 < k) = false := decide_eq_false h5
    have hS : SpanOk ms a b k := ⟨h1, h2, h3, by omega, by omega⟩
    obtain ⟨A2, hA2⟩ : ∃ A : Int, a - k = A := ⟨_, rfl⟩
    obtain ⟨B2, hB2⟩ : ∃ B : Int, b + k = B := ⟨_, rfl⟩
    have wA2 : IntKind.i64.wrap (a - k) = A2 := by unfold IsMom at h2; rw [IntKind.wrap_i64]; omega
    have wB2 : IntKind.i64.wrap (b + k) = B2 := by unfold IsMom at h3; rw [IntKind.wrap_i64]; omega
    by_cases h6 : A2 ≤ ms
    case neg =>
      have hW2 := hW w1
      rw [decide_eq_false (show ¬ WithinP ms a b k from fun h => by have := h.2.1; omega)] at hW2
      clear hW
      have d6 : decide (A2 ≤ ms) = false := decide_eq_false h6
      clear h1 h2 h3 hS hA2 hB2
      go_wp2_with fail
      refine hW2.mono ?_
      rintro e w1 ⟨rfl, rfl⟩
      clear hW2
      go_wp2_with fail
      refine (hI1 w1).mono ?_
      rintro e w1 ⟨rfl, rfl⟩
      go_wp2_with fail
      refine (hIa w1).mono ?_
      rintro e w1 ⟨rfl, rfl⟩
      go_wp2_with fail
      refine (hIb w1).mono ?_
      rintro e w1 ⟨rfl, rfl⟩
      go_wp2_with fail
      go_ret
      exact ⟨by first | rfl | (simp; done) | (congr 2; simp; done), HF.out⟩
    have d6 : decide (A2 ≤ ms) = true := decide_eq_true h6
    by_cases h7 : ms < B2
    case neg =>
      have hW2 := hW w1
      rw [decide_eq_false (show ¬ WithinP ms a b k from fun h => by have := h.2.2; omega)] at hW2
      clear hW
      have d7 : decide (ms < B2) = false := decide_eq_false h7
      clear h1 h2 h3 hS hA2 hB2
      go_wp2_with fail
      refine hW2.mono ?_
      rintro e w1 ⟨rfl, rfl⟩
      clear hW2
      go_wp2_with fail
      refine (hI1 w1).mono ?_
      rintro e w1 ⟨rfl, rfl⟩
      go_wp2_with fail
      refine (hIa w1).mono ?_
      rintro e w1 ⟨rfl, rfl⟩
      go_wp2_with fail
      refine (hIb w1).mono ?_
      rintro e w1 ⟨rfl, rfl⟩
      go_wp2_with fail
      go_ret
      exact ⟨by first | rfl | (simp; done) | (congr 2; simp; done), HF.out⟩
    have d7 : decide (ms < B2) = true := decide_eq_true h7
    have hW2 := hW w1
    rw [decide_eq_true (show WithinP ms a b k from ⟨hS, by omega, by omega⟩)] at hW2
    clear hW
    clear h1 h2 h3 hS hA2 hB2
    go_wp2_with fail
    refine hW2.mono ?_
    rintro e w1 ⟨rfl, rfl⟩
    clear hW2
    go_wp2_with fail
    refine (hI1 w1).mono ?_
    rintro e w1 ⟨rfl, rfl⟩
    go_wp2_with fail
    refine (hIa w1).mono ?_
    rintro e w1 ⟨rfl, rfl⟩
    go_wp2_with fail
    refine (hIb w1).mono ?_
    rintro e w1 ⟨rfl, rfl⟩
    go_wp2_with fail
    go_ret
    exact ⟨by first | rfl | (simp; done) | (congr 2; simp; done), HF.out⟩
  have d3 : decide (A ≤ more) = true := decide_eq_true g3
  by_cases g4 : more ≤ B
  case neg =>
    have n1 : ¬ AddOk ms more := fun h => by have := h.2.2; omega
    simp only [if_neg n1] at hAdd
    have d3' : decide (more ≤ B) = false := decide_eq_false g4
    clear n1 hwf hA hB
    go_wp2_with fail
    refine (hAdd w1).mono ?_
    rintro e w1 ⟨rfl, rfl⟩
    go_wp2_with fail
    refine (hI1 w1).mono ?_
    rintro e w1 ⟨rfl, rfl⟩
    go_wp2_with fail
    refine (hFi w1).mono ?_
    rintro e w1 ⟨rfl, rfl⟩
    go_wp2_with fail
    refine (hLa w1).mono ?_
    rintro e w1 ⟨rfl, rfl⟩
    clear hAdd hFi hLa
    by_cases h2 : IsMom a
    case neg =>
      simp only [decide_eq_false h2] at hIa
      have hW2 := hW w1
      rw [decide_eq_false (show ¬ WithinP ms a b k from fun h => h2 h.1.2.1)] at hW2
      clear hW
      go_wp2_with fail
      refine hW2.mono ?_
      rintro e w1 ⟨rfl, rfl⟩
      clear hW2
      go_wp2_with fail
      refine (hI1 w1).mono ?_
      rintro e w1 ⟨rfl, rfl⟩
      go_wp2_with fail
      refine (hIa w1).mono ?_
      rintro e w1 ⟨rfl, rfl⟩
      go_wp2_with fail
      go_ret
      exact ⟨by first | rfl | (simp; done) | (congr 2; simp; done), HF.out⟩
    simp only [decide_eq_true h2] at hIa
    by_cases h3 : IsMom b
    case neg =>
      simp only [decide_eq_false h3] at hIb
      have hW2 := hW w1
      rw [decide_eq_false (show ¬ WithinP ms a b k from fun h => h3 h.1.2.2.1)] at hW2
      clear hW
      go_wp2_with fail
      refine hW2.mono ?_
      rintro e w1 ⟨rfl, rfl⟩
      clear hW2
      go_wp2_with fail
      refine (hI1 w1).mono ?_
      rintro e w1 ⟨rfl, rfl⟩
      go_wp2_with fail
      refine (hIa w1).mono ?_
      rintro e w1 ⟨rfl, rfl⟩
      go_wp2_with fail
      refine (hIb w1).mono ?_
      rintro e w1 ⟨rfl, rfl⟩
      go_wp2_with fail
      go_ret
      exact ⟨by first | rfl | (simp; done) | (congr 2; simp; done), HF.out⟩
    simp only [decide_eq_true h3] at hIb
    by_cases h4 : k < 0
    case pos =>
      have hW2 := hW w1
      rw [decide_eq_false (show ¬ WithinP ms a b k from fun h => by have := h.1.2.2.2.1; omega)] at hW2
      clear hW
      have d4 : decide (k < 0) = true := decide_eq_true h4
      clear h1 h2 h3
      go_wp2_with fail
      refine hW2.mono ?_
      rintro e w1 ⟨rfl, rfl⟩
      clear hW2
      go_wp2_with fail
      refine (hI1 w1).mono ?_
      rintro e w1 ⟨rfl, rfl⟩
      go_wp2_with fail
      refine (hIa w1).mono ?_
      rintro e w1 ⟨rfl, rfl⟩
      go_wp2_with fail
      refine (hIb w1).mono ?_
      rintro e w1 ⟨rfl, rfl⟩
      go_wp2_with fail
      go_ret
      exact ⟨by first | rfl | (simp; done) | (congr 2; simp; done), HF.out⟩
    have d4 : decide (k < 0) = false := decide_eq_false h4
    by_cases h5 : 86400000 < k
    case pos =>
      have hW2 := hW w1
      rw [decide_eq_false (show ¬ WithinP ms a b k from fun h => by have := h.1.2.2.2.2; omega)] at hW2
      clear hW
      have d5 : decide (86400000 < k) = true := decide_eq_true h5
      clear h1 h2 h3
      go_wp2_with fail
      refine hW2.mono ?_
      rintro e w1 ⟨rfl, rfl⟩
      clear hW2
      go_wp2_with fail
      refine (hI1 w1).mono ?_
      rintro e w1 ⟨rfl, rfl⟩
      go_wp2_with fail
      refine (hIa w1).mono ?_
      rintro e w1 ⟨rfl, rfl⟩
      go_wp2_with fail
      refine (hIb w1).mono ?_
      rintro e w1 ⟨rfl, rfl⟩
      go_wp2_with fail
      go_ret
      exact ⟨by first | rfl | (simp; done) | (congr 2; simp; done), HF.out⟩
    have d5 : decide (86400000 < k) = false := decide_eq_false h5
    have hS : SpanOk ms a b k := ⟨h1, h2, h3, by omega, by omega⟩
    obtain ⟨A2, hA2⟩ : ∃ A : Int, a - k = A := ⟨_, rfl⟩
    obtain ⟨B2, hB2⟩ : ∃ B : Int, b + k = B := ⟨_, rfl⟩
    have wA2 : IntKind.i64.wrap (a - k) = A2 := by unfold IsMom at h2; rw [IntKind.wrap_i64]; omega
    have wB2 : IntKind.i64.wrap (b + k) = B2 := by unfold IsMom at h3; rw [IntKind.wrap_i64]; omega
    by_cases h6 : A2 ≤ ms
    case neg =>
      have hW2 := hW w1
      rw [decide_eq_false (show ¬ WithinP ms a b k from fun h => by have := h.2.1; omega)] at hW2
      clear hW
      have d6 : decide (A2 ≤ ms) = false := decide_eq_false h6
      clear h1 h2 h3 hS hA2 hB2
      go_wp2_with fail
      refine hW2.mono ?_
      rintro e w1 ⟨rfl, rfl⟩
      clear hW2
      go_wp2_with fail
      refine (hI1 w1).mono ?_
      rintro e w1 ⟨rfl, rfl⟩
      go_wp2_with fail
      refine (hIa w1).mono ?_
      rintro e w1 ⟨rfl, rfl⟩
      go_wp2_with fail
      refine (hIb w1).mono ?_
      rintro e w1 ⟨rfl, rfl⟩
      go_wp2_with fail
      go_ret
      exact ⟨by first | rfl | (simp; done) | (congr 2; simp; done), HF.out⟩
    have d6 : decide (A2 ≤ ms) = true := decide_eq_true h6
    by_cases h7 : ms < B2
    case neg =>
      have hW2 := hW w1
      rw [decide_eq_false (show ¬ WithinP ms a b k from fun h => by have := h.2.2; omega)] at hW2
      clear hW
      have d7 : decide (ms < B2) = false := decide_eq_false h7
      clear h1 h2 h3 hS hA2 hB2
      go_wp2_with fail
      refine hW2.mono ?_
      rintro e w1 ⟨rfl, rfl⟩
      clear hW2
      go_wp2_with fail
      refine (hI1 w1).mono ?_
      rintro e w1 ⟨rfl, rfl⟩
      go_wp2_with fail
      refine (hIa w1).mono ?_
      rintro e w1 ⟨rfl, rfl⟩
      go_wp2_with fail
      refine (hIb w1).mono ?_
      rintro e w1 ⟨rfl, rfl⟩
      go_wp2_with fail
      go_ret
      exact ⟨by first | rfl | (simp; done) | (congr 2; simp; done), HF.out⟩
    have d7 : decide (ms < B2) = true := decide_eq_true h7
    have hW2 := hW w1
    rw [decide_eq_true (show WithinP ms a b k from ⟨hS, by omega, by omega⟩)] at hW2
    clear hW
    clear h1 h2 h3 hS hA2 hB2
    go_wp2_with fail
    refine hW2.mono ?_
    rintro e w1 ⟨rfl, rfl⟩
    clear hW2
    go_wp2_with fail
    refine (hI1 w1).mono ?_
    rintro e w1 ⟨rfl, rfl⟩
    go_wp2_with fail
    refine (hIa w1).mono ?_
    rintro e w1 ⟨rfl, rfl⟩
    go_wp2_with fail
    refine (hIb w1).mono ?_
    rintro e w1 ⟨rfl, rfl⟩
    go_wp2_with fail
    go_ret
    exact ⟨by first | rfl | (simp; done) | (congr 2; simp; done), HF.out⟩
  have d3' : decide (more ≤ B) = true := decide_eq_true g4
  have n1 : AddOk ms more := ⟨h1, by omega, by omega⟩
  simp only [if_pos n1] at hAdd
  have wC : IntKind.i64.wrap (ms + more) = ms + more := hwf.resolve_right (fun h => h n1)
  clear n1 hwf hA hB
  go_wp2_with fail
  refine (hAdd w1).mono ?_
  rintro e w1 ⟨rfl, rfl⟩
  go_wp2_with fail
  refine (hI1 w1).mono ?_
  rintro e w1 ⟨rfl, rfl⟩
  go_wp2_with fail
  refine (hFi w1).mono ?_
  rintro e w1 ⟨rfl, rfl⟩
  go_wp2_with fail
  refine (hLa w1).mono ?_
  rintro e w1 ⟨rfl, rfl⟩
  clear hAdd hFi hLa
  by_cases h2 : IsMom a
  case neg =>
    simp only [decide_eq_false h2] at hIa
    have hW2 := hW w1
    rw [decide_eq_false (show ¬ WithinP ms a b k from fun h => h2 h.1.2.1)] at hW2
    clear hW
    go_wp2_with fail
    refine hW2.mono ?_
    rintro e w1 ⟨rfl, rfl⟩
    clear hW2
    go_wp2_with fail
    refine (hI1 w1).mono ?_
    rintro e w1 ⟨rfl, rfl⟩
    go_wp2_with fail
    refine (hIa w1).mono ?_
    rintro e w1 ⟨rfl, rfl⟩
    go_wp2_with fail
    go_ret
    exact ⟨by first | rfl | (simp; done) | (congr 2; simp; done), HF.out⟩
  simp only [decide_eq_true h2] at hIa
  by_cases h3 : IsMom b
  case neg =>
    simp only [decide_eq_false h3] at hIb
    have hW2 := hW w1
    rw [decide_eq_false (show ¬ WithinP ms a b k from fun h => h3 h.1.2.2.1)] at hW2
    clear hW
    go_wp2_with fail
    refine hW2.mono ?_
    rintro e w1 ⟨rfl, rfl⟩
    clear hW2
    go_wp2_with fail
    refine (hI1 w1).mono ?_
    rintro e w1 ⟨rfl, rfl⟩
    go_wp2_with fail
    refine (hIa w1).mono ?_
    rintro e w1 ⟨rfl, rfl⟩
    go_wp2_with fail
    refine (hIb w1).mono ?_
    rintro e w1 ⟨rfl, rfl⟩
    go_wp2_with fail
    go_ret
    exact ⟨by first | rfl | (simp; done) | (congr 2; simp; done), HF.out⟩
  simp only [decide_eq_true h3] at hIb
  by_cases h4 : k < 0
  case pos =>
    have hW2 := hW w1
    rw [decide_eq_false (show ¬ WithinP ms a b k from fun h => by have := h.1.2.2.2.1; omega)] at hW2
    clear hW
    have d4 : decide (k < 0) = true := decide_eq_true h4
    clear h1 h2 h3
    go_wp2_with fail
    refine hW2.mono ?_
    rintro e w1 ⟨rfl, rfl⟩
    clear hW2
    go_wp2_with fail
    refine (hI1 w1).mono ?_
    rintro e w1 ⟨rfl, rfl⟩
    go_wp2_with fail
    refine (hIa w1).mono ?_
    rintro e w1 ⟨rfl, rfl⟩
    go_wp2_with fail
    refine (hIb w1).mono ?_
    rintro e w1 ⟨rfl, rfl⟩
    go_wp2_with fail
    go_ret
    exact ⟨by first | rfl | (simp; done) | (congr 2; simp; done), HF.out⟩
  have d4 : decide (k < 0) = false := decide_eq_false h4
  by_cases h5 : 86400000 < k
  case pos =>
    have hW2 := hW w1
    rw [decide_eq_false (show ¬ WithinP ms a b k from fun h => by have := h.1.2.2.2.2; omega)] at hW2
    clear hW
    have d5 : decide (86400000 < k) = true := decide_eq_true h5
    clear h1 h2 h3
    go_wp2_with fail
    refine hW2.mono ?_
    rintro e w1 ⟨rfl, rfl⟩
    clear hW2
    go_wp2_with fail
    refine (hI1 w1).mono ?_
    rintro e w1 ⟨rfl, rfl⟩
    go_wp2_with fail
    refine (hIa w1).mono ?_
    rintro e w1 ⟨rfl, rfl⟩
    go_wp2_with fail
    refine (hIb w1).mono ?_
    rintro e w1 ⟨rfl, rfl⟩
    go_wp2_with fail
    go_ret
    exact ⟨by first | rfl | (simp; done) | (congr 2; simp; done), HF.out⟩
  have d5 : decide (86400000 < k) = false := decide_eq_false h5
  have hS : SpanOk ms a b k := ⟨h1, h2, h3, by omega, by omega⟩
  obtain ⟨A2, hA2⟩ : ∃ A : Int, a - k = A := ⟨_, rfl⟩
  obtain ⟨B2, hB2⟩ : ∃ B : Int, b + k = B := ⟨_, rfl⟩
  have wA2 : IntKind.i64.wrap (a - k) = A2 := by unfold IsMom at h2; rw [IntKind.wrap_i64]; omega
  have wB2 : IntKind.i64.wrap (b + k) = B2 := by unfold IsMom at h3; rw [IntKind.wrap_i64]; omega
  by_cases h6 : A2 ≤ ms
  case neg =>
    have hW2 := hW w1
    rw [decide_eq_false (show ¬ WithinP ms a b k from fun h => by have := h.2.1; omega)] at hW2
    clear hW
    have d6 : decide (A2 ≤ ms) = false := decide_eq_false h6
    clear h1 h2 h3 hS hA2 hB2
    go_wp2_with fail
    refine hW2.mono ?_
    rintro e w1 ⟨rfl, rfl⟩
    clear hW2
    go_wp2_with fail
    refine (hI1 w1).mono ?_
    rintro e w1 ⟨rfl, rfl⟩
    go_wp2_with fail
    refine (hIa w1).mono ?_
    rintro e w1 ⟨rfl, rfl⟩
    go_wp2_with fail
    refine (hIb w1).mono ?_
    rintro e w1 ⟨rfl, rfl⟩
    go_wp2_with fail
    go_ret
    exact ⟨by first | rfl | (simp; done) | (congr 2; simp; done), HF.out⟩
  have d6 : decide (A2 ≤ ms) = true := decide_eq_true h6
  by_cases h7 : ms < B2
  case neg =>
    have hW2 := hW w1
    rw [decide_eq_false (show ¬ WithinP ms a b k from fun h => by have := h.2.2; omega)] at hW2
    clear hW
    have d7 : decide (ms < B2) = false := decide_eq_false h7
    clear h1 h2 h3 hS hA2 hB2
    go_wp2_with fail
    refine hW2.mono ?_
    rintro e w1 ⟨rfl, rfl⟩
    clear hW2
    go_wp2_with fail
    refine (hI1 w1).mono ?_
    rintro e w1 ⟨rfl, rfl⟩
    go_wp2_with fail
    refine (hIa w1).mono ?_
    rintro e w1 ⟨rfl, rfl⟩
    go_wp2_with fail
    refine (hIb w1).mono ?_
    rintro e w1 ⟨rfl, rfl⟩
    go_wp2_with fail
    go_ret
    exact ⟨by first | rfl | (simp; done) | (congr 2; simp; done), HF.out⟩
  have d7 : decide (ms < B2) = true := decide_eq_true h7
  have hW2 := hW w1
  rw [decide_eq_true (show WithinP ms a b k from ⟨hS, by omega, by omega⟩)] at hW2
  clear hW
  clear h1 h2 h3 hS hA2 hB2
  go_wp2_with fail
  refine hW2.mono ?_
  rintro e w1 ⟨rfl, rfl⟩
  clear hW2
  go_wp2_with fail
  refine (hI1 w1).mono ?_
  rintro e w1 ⟨rfl, rfl⟩
  go_wp2_with fail
  refine (hIa w1).mono ?_
  rintro e w1 ⟨rfl, rfl⟩
  go_wp2_with fail
  refine (hIb w1).mono ?_
  rintro e w1 ⟨rfl, rfl⟩
  go_wp2_with fail
  go_ret
  exact ⟨by first | rfl | (simp; done) | (congr 2; simp; done), HF.out⟩
theorem lmAdds_all (ms more a b k : Int) (w : World) (h : Laid10 w) : Calls Tryd.prog 5 #[.int .i64 ms, .int .i64 more, .agg #[.int .i64 a, .int .i64 b, .int .i64 k]] w fun e w' => e = .returned (.bool true) ∧ Below w.heap.size w w' :=
  lmAdds_any ms more a b k w h (by
    by_cases n : AddOk ms more
    · obtain ⟨h1, h2, h3⟩ := n
      refine .inl ?_
      unfold IsMom at h1
      rw [IntKind.wrap_i64]
      omega
    · exact .inr n)
end Go.Proofs.YtbepjlhknmhmeaaDoor
