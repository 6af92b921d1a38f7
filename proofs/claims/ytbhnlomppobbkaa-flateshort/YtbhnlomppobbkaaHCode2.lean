/-
  PLAIN: the signs of a length, counted.
-/
import Derived.Test.YtbhnlomppobbkaaHCode
namespace Go.Proofs.Ytbhnlomppobbkaa.Ch

theorem idxs_at (L : List Nat) {n i : Nat} (hi : L[i]? = some n) : (idxs L n)[(L.take i).count n]? = some i := by
  have hlt : i < L.length := (List.getElem?_eq_some_iff.1 hi).1
  unfold idxs
  have e : List.range L.length = List.range i ++ (List.range (L.length - i)).map (i + ·) := by
    rw [← List.range_add]
    congr 1
    omega
  rw [e, List.filter_append, List.getElem?_append_right (by rw [take_count]; exact Nat.le_refl _), take_count, Nat.sub_self]
  obtain ⟨m, hm⟩ : ∃ m, L.length - i = m + 1 := ⟨L.length - i - 1, by omega⟩
  rw [hm, List.range_succ_eq_map, List.map_cons, List.filter_cons_of_pos (by simp [hi])]
  simp
theorem theSign_at (L : List Nat) {n i : Nat} (hi : L[i]? = some n) : theSign L n ((L.take i).count n) = i := by
  unfold theSign
  rw [idxs_at L hi]
  rfl
theorem count_step (L : List Nat) (n k : Nat) : (L.take (k + 1)).count n = (L.take k).count n + (if L[k]? = some n then 1 else 0) := by
  rw [List.take_add_one, List.count_append]
  congr 1
  cases h : L[k]? with
  | none => simp
  | some x =>
    by_cases e : x = n
    · simp [e]
    · simp [e]
theorem sign_ex (L : List Nat) (n : Nat) : ∀ (k r : Nat), r < (L.take k).count n → ∃ i, i < k ∧ L[i]? = some n ∧ (L.take i).count n = r := by
  intro k
  induction k with
  | zero => intro r h; simp at h
  | succ k ih =>
    intro r h
    rw [count_step] at h
    by_cases hr : r < (L.take k).count n
    · obtain ⟨i, h1, h2, h3⟩ := ih r hr
      exact ⟨i, by omega, h2, h3⟩
    · split at h
      · rename_i hk
        exact ⟨k, by omega, hk, by omega⟩
      · omega
theorem sign_of (L : List Nat) {n r : Nat} (hn : n ≠ 0) (h : r < cz L n) : ∃ i, i < L.length ∧ L[i]? = some n ∧ (L.take i).count n = r ∧ theSign L n r = i := by
  rw [cz, if_neg hn] at h
  have h' : r < (L.take L.length).count n := by rw [List.take_length]; exact h
  obtain ⟨i, h1, h2, h3⟩ := sign_ex L n L.length r h'
  exact ⟨i, h1, h2, h3, by rw [← h3]; exact theSign_at L h2⟩
theorem count_take_le (L : List Nat) (n k : Nat) : (L.take k).count n ≤ L.count n := by
  have : (L.take k ++ L.drop k).count n = L.count n := by rw [List.take_append_drop]
  rw [List.count_append] at this
  omega
/-- Of the first k all counted, one more. -/
theorem count_lt (L : List Nat) {n k : Nat} (h : L[k]? = some n) : (L.take k).count n < L.count n := by
  have h1 := count_step L n k
  rw [if_pos h] at h1
  have := count_take_le L n (k + 1)
  omega
end Go.Proofs.Ytbhnlomppobbkaa.Ch
