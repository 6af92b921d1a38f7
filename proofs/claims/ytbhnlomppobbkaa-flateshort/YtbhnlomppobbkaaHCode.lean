/-
  PLAIN: facts on codes of lengths.
-/
import Derived.Test.YtbhnlomppobbkaaHInf
namespace Go.Proofs.Ytbhnlomppobbkaa.Ch

theorem cz_le (L : List Nat) (n : Nat) : cz L n ≤ L.length := by unfold cz; split; exact Nat.zero_le _; exact List.count_le_length
theorem sh_mono (L : List Nat) {a b : Nat} (h : a ≤ b) : sh L a ≤ sh L b := by
  induction b with
  | zero =>
    obtain rfl : a = 0 := by omega
    exact Nat.le_refl _
  | succ b ih =>
    by_cases e : a = b + 1
    · rw [e]; exact Nat.le_refl _
    · have := ih (by omega)
      rw [sh]
      omega
theorem sh_le (L : List Nat) (n : Nat) : sh L n ≤ n * L.length := by
  induction n with
  | zero => exact Nat.zero_le _
  | succ n ih =>
    rw [sh, Nat.succ_mul]
    have := cz_le L n
    omega
theorem take_count (L : List Nat) (n k : Nat) : ((List.range k).filter fun i => L[i]? == some n).length = (L.take k).count n := by
  induction k with
  | zero => simp
  | succ k ih =>
    rw [List.range_succ, List.filter_append, List.length_append, ih, List.take_add_one, List.count_append]
    congr 1
    cases h : L[k]? with
    | none => simp [h]
    | some x =>
      by_cases e : x = n
      · simp [h, e]
      · simp [h, e]
theorem idxs_length (L : List Nat) (n : Nat) : (idxs L n).length = L.count n := by
  unfold idxs
  rw [take_count, List.take_length]
theorem theSign_lt (L : List Nat) {n r : Nat} (h : r < cz L n) : theSign L n r < L.length ∧ L[theSign L n r]? = some n := by
  have hn : n ≠ 0 := by intro e; rw [cz, if_pos e] at h; omega
  rw [cz, if_neg hn, ← idxs_length] at h
  unfold theSign
  rw [List.getElem?_eq_getElem h]
  have hm := List.getElem_mem h
  rw [Option.getD_some]
  unfold idxs at hm
  obtain ⟨h1, h2⟩ := List.mem_filter.1 hm
  exact ⟨List.mem_range.1 h1, beq_iff_eq.1 h2⟩
theorem sgnF_ok {L : List Nat} {l : List UInt8} : ∀ (f n c p s q : Nat), sgnF L l f n c p = .ok (s, q) → (first L (n + 1) ≤ 2 * c) → s < L.length ∧ p < q ∧ q ≤ 8 * l.length := by
  intro f
  induction f with
  | zero => intro n c p s q h _; cases h
  | succ f ih =>
    intro n c p s q h hc
    rw [sgnF] at h
    by_cases h1 : sh L (n + 1) < total L
    · rw [if_pos h1] at h
      by_cases h2 : p + 1 ≤ 8 * l.length
      · rw [if_pos h2] at h
        by_cases h3 : 2 * c + (bitL l p).toNat < first L (n + 1) + cz L (n + 1)
        · rw [if_pos h3] at h
          simp only [Except.ok.injEq, Prod.mk.injEq] at h
          obtain ⟨rfl, rfl⟩ := h
          exact ⟨(theSign_lt L (by omega)).1, by omega, h2⟩
        · rw [if_neg h3] at h
          obtain ⟨a, b, c⟩ := ih _ _ _ _ _ h (by rw [first]; omega)
          exact ⟨a, by omega, c⟩
      · rw [if_neg h2] at h; cases h
    · rw [if_neg h1] at h; cases h
theorem sgn_ok {L : List Nat} {l : List UInt8} {p s q : Nat} (h : sgn L l p = .ok (s, q)) : s < L.length ∧ p < q ∧ q ≤ 8 * l.length := sgnF_ok 16 0 0 p s q h (by simp [first, cz])
theorem sgnF_err {L : List Nat} {l : List UInt8} : ∀ (f n c p k : Nat), sgnF L l f n c p = .error k → k = 10 ∨ k = 11 := by
  intro f
  induction f with
  | zero => intro n c p k h; simp only [sgnF, Except.error.injEq] at h; exact .inl h.symm
  | succ f ih =>
    intro n c p k h
    rw [sgnF] at h
    split at h
    · split at h
      · split at h
        · cases h
        · exact ih _ _ _ _ h
      · simp only [Except.error.injEq] at h; exact .inr h.symm
    · simp only [Except.error.injEq] at h; exact .inl h.symm
end Go.Proofs.Ytbhnlomppobbkaa.Ch
