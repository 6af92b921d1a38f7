/-
  PLAIN: how long a deflated text of repeated pieces is.
-/
import Derived.Test.YtbhnlomppobbkaaHPl3
namespace Go.Proofs.Ytbhnlomppobbkaa.Ch

theorem len_fin : ∀ i : Fin 28, (fixC (257 + i.val)).2 + (moreN i.val 4).2 ≤ 13 := by decide +kernel
theorem far_fin2 : ∀ i : Fin 18, (moreN i.val 2).2 ≤ 7 ∧ (i.val < 11 → (moreN i.val 2).2 ≤ 4) := by decide +kernel
theorem lenBits_le {k : Nat} (hk2 : k ≤ 258) : (lenBits k).length ≤ 13 := by
  by_cases e : k = 258
  · rw [lenBits, if_pos e, codeBits_length]; decide
  · rw [lenBits, if_neg e, List.length_append, codeBits_length, numBits_length]
    exact len_fin ⟨stepOf (k - 3) 4, step_lt4 (by omega)⟩
theorem lenBits_full : (lenBits 258).length = 8 := by rw [lenBits, if_pos rfl, codeBits_length]; decide
theorem farBits_le {d : Nat} (hd : d ≤ 512) : (farBits d).length ≤ 12 := by
  rw [farBits, List.length_append, codeBits_length, numBits_length]
  have := far_fin2 ⟨stepOf (d - 1) 2, step_lt2 (by omega)⟩
  simp only at this
  omega
theorem step_lt11 {x : Nat} (hx : x < 48) : stepOf x 2 < 11 := by
  obtain ⟨⟨h1, h2⟩, h3⟩ := stepOf_is (g := 2) (.inl rfl) (show x < 1000 by omega)
  rcases Nat.lt_or_ge (stepOf x 2) 11 with h | h
  · exact h
  · have := more_mono (g := 2) (.inl rfl) h (by omega)
    have e : (moreN 11 2).1 = 48 := by decide
    omega
theorem farBits_near {d : Nat} (hd : d ≤ 40) : (farBits d).length ≤ 9 := by
  rw [farBits, List.length_append, codeBits_length, numBits_length]
  have h1 := step_lt11 (show d - 1 < 48 by omega)
  have := far_fin2 ⟨stepOf (d - 1) 2, by omega⟩
  simp only at this
  have := this.2 h1
  omega
theorem signBits_le (s : Nat) : (signBits s).length ≤ 9 := by rw [signBits, codeBits_length]; exact (fixC_wide s).2
theorem signBits_end : (signBits 256).length = 7 := by rw [signBits, codeBits_length]; decide
theorem ml_full (f : Nat → Nat) (a d : Nat) : ∀ (k : Nat), (∀ j, j < k → f (a + j) = f (a + j - d)) → ml f a d k = k := by
  intro k
  induction k with
  | zero => intro _; rfl
  | succ k ih => intro h; exact ml_step f a d k (ih fun j hj => h j (by omega)) (h k (by omega))
/-- Behind the first piece a copy is as long as can be, and not from far. -/
theorem copy_run (f : Nat → Nat) (n a P : Nat) (hP : 1 ≤ P) (hP2 : P ≤ 40) (ha : P ≤ a) (h : ∀ j, P ≤ j → j < n → f j = f (j - P)) : (copyAt f n a).1 = min 258 (n - a) ∧ (copyAt f n a).2 ≤ 40 := by
  have hm : ml f a P (min 258 (n - a)) = min 258 (n - a) := ml_full f a P _ (fun j hj => h (a + j) (by omega) (by omega))
  have hge : min 258 (n - a) ≤ (best f a (min 258 (n - a)) P).1 := by
    obtain ⟨p, rfl⟩ : ∃ p, P = p + 1 := ⟨P - 1, by omega⟩
    rw [best]
    split
    · exact Nat.le_of_eq hm.symm
    · omega
  obtain ⟨b1, b2, b3⟩ := best_le f a (min 258 (n - a)) P
  have e := best_full f a (min 258 (n - a)) P (by omega) (min 512 a) (by omega)
  unfold copyAt
  rw [e]
  exact ⟨by omega, by omega⟩
theorem run_far (f : Nat → Nat) (n P : Nat) (hP : 1 ≤ P) (hP2 : P ≤ 40) (h : ∀ j, P ≤ j → j < n → f j = f (j - P)) : ∀ (m a : Nat), n - a ≤ m → a ≤ n → P ≤ a → (deflB f n a).length ≤ 17 * ((n - a) / 258) + 32 := by
  intro m
  induction m using Nat.strongRecOn with
  | ind m ih =>
    intro a hm ha hPa
    rw [deflB_unfold]
    by_cases hlt : a < n
    · obtain ⟨c1, c2⟩ := copy_run f n a P hP hP2 hPa h
      rw [if_pos hlt]
      by_cases hc : (copyAt f n a).1 < 3
      · rw [if_pos hc, List.length_append]
        have s1 := signBits_le (f a)
        rw [deflB_unfold]
        by_cases h2 : a + 1 < n
        · obtain ⟨c3, c4⟩ := copy_run f n (a + 1) P hP hP2 (by omega) h
          rw [if_pos h2, if_pos (by omega), List.length_append, deflB_unfold, if_neg (by omega), signBits_end]
          have s2 := signBits_le (f (a + 1))
          omega
        · rw [if_neg h2, signBits_end]
          omega
      · rw [if_neg hc, List.length_append, List.length_append]
        have l2 := farBits_near c2
        by_cases hf : 258 ≤ n - a
        · have e1 : (copyAt f n a).1 = 258 := by omega
          rw [e1, lenBits_full]
          have := ih (n - (a + 258)) (by omega) (a + 258) (Nat.le_refl _) (by omega) (by omega)
          omega
        · have l1 := lenBits_le (k := (copyAt f n a).1) (by omega)
          have e1 : a + (copyAt f n a).1 = n := by omega
          rw [e1, deflB_unfold f n n, if_neg (by omega), signBits_end]
          omega
    · rw [if_neg hlt, signBits_end]
      omega
theorem run_near (f : Nat → Nat) (n P : Nat) (hP : 1 ≤ P) (hP2 : P ≤ 40) (hPn : P ≤ n) (h : ∀ j, P ≤ j → j < n → f j = f (j - P)) : ∀ (m a : Nat), P - a ≤ m → a ≤ P → (deflB f n a).length ≤ 9 * (P - a) + 25 + 17 * (n / 258) + 32 := by
  intro m
  induction m using Nat.strongRecOn with
  | ind m ih =>
    intro a hm ha
    by_cases hlt : a < P
    · rw [deflB_unfold, if_pos (by omega)]
      obtain ⟨c1, c2, c3, c4, c5⟩ := copyAt_le f n a
      by_cases hc : (copyAt f n a).1 < 3
      · rw [if_pos hc, List.length_append]
        have s1 := signBits_le (f a)
        have := ih (P - (a + 1)) (by omega) (a + 1) (Nat.le_refl _) (by omega)
        omega
      · rw [if_neg hc, List.length_append, List.length_append]
        have l1 := lenBits_le c1
        have l2 := farBits_le c3
        by_cases hk : a + (copyAt f n a).1 ≤ P
        · have := ih (P - (a + (copyAt f n a).1)) (by omega) _ (Nat.le_refl _) hk
          omega
        · have := run_far f n P hP hP2 h _ (a + (copyAt f n a).1) (Nat.le_refl _) (by omega) (by omega)
          omega
    · obtain rfl : a = P := by omega
      have := run_far f n a hP hP2 h _ a (Nat.le_refl _) hPn (Nat.le_refl _)
      omega
/-- A deflated text of repeated pieces is short. -/
theorem run_short (f : Nat → Nat) (n P : Nat) (hP : 1 ≤ P) (hP2 : P ≤ 40) (hPn : P ≤ n) (h : ∀ j, P ≤ j → j < n → f j = f (j - P)) : (pack ([true, true, false] ++ deflB f n 0)).length ≤ 2 * P + 16 + n / 64 := by
  have := run_near f n P hP hP2 hPn h _ 0 (Nat.le_refl _) (by omega)
  rw [pack_length, List.length_append]
  simp only [List.length_cons, List.length_nil]
  omega
/-- No deflated text is much longer than the text. -/
theorem deflB_le (f : Nat → Nat) (n : Nat) : ∀ (m a : Nat), n - a ≤ m → (deflB f n a).length ≤ 9 * (n - a) + 7 := by
  intro m
  induction m using Nat.strongRecOn with
  | ind m ih =>
    intro a hm
    rw [deflB_unfold]
    by_cases hlt : a < n
    · rw [if_pos hlt]
      obtain ⟨c1, c2, c3, c4, c5⟩ := copyAt_le f n a
      by_cases hc : (copyAt f n a).1 < 3
      · rw [if_pos hc, List.length_append]
        have s1 := signBits_le (f a)
        have := ih (n - (a + 1)) (by omega) (a + 1) (Nat.le_refl _)
        omega
      · rw [if_neg hc, List.length_append, List.length_append]
        have l1 := lenBits_le c1
        have l2 := farBits_le c3
        have := ih (n - (a + (copyAt f n a).1)) (by omega) _ (Nat.le_refl _)
        omega
    · rw [if_neg hlt, signBits_end]
      omega
end Go.Proofs.Ytbhnlomppobbkaa.Ch
