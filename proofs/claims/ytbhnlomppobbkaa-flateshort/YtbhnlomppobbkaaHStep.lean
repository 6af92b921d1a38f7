/-
  PLAIN: the steps of lengths and distances, the fixed codes.
-/
import Derived.Test.YtbhnlomppobbkaaHPack
namespace Go.Proofs.Ytbhnlomppobbkaa.Ch

/-- The least number of a step, above the first one's, and how many bits tell the rest. -/
def moreN (i g : Nat) : Nat × Nat := if i < g then (i, 0) else ((g + i % g) * 2 ^ (i / g - 1), i / g - 1)
/-- The fixed code of a sign, and its width. -/
def fixC (s : Nat) : Nat × Nat := if s < 144 then (48 + s, 8) else if s < 256 then (256 + s, 9) else if s < 280 then (s - 256, 7) else (s - 88, 8)
/-- The last step whose least number isn't beyond x. -/
def IsStep (x g s : Nat) : Prop := (moreN s g).1 ≤ x ∧ x < (moreN (s + 1) g).1
/-- The greatest step up to k. -/
def stepF (x g : Nat) : Nat → Nat
  | 0 => 0
  | k + 1 => if (moreN (k + 1) g).1 ≤ x then k + 1 else stepF x g k
def stepOf (x g : Nat) : Nat := stepF x g 39
theorem stepF_spec (x g k : Nat) (h0 : (moreN 0 g).1 ≤ x) : stepF x g k ≤ k ∧ (moreN (stepF x g k) g).1 ≤ x ∧ ∀ j, stepF x g k < j → j ≤ k → x < (moreN j g).1 := by
  induction k with
  | zero => exact ⟨Nat.le_refl _, h0, fun j h1 h2 => by simp [stepF] at h1; omega⟩
  | succ k ih =>
    rw [stepF]
    split
    · rename_i h
      exact ⟨Nat.le_refl _, h, fun j h1 h2 => by omega⟩
    · rename_i h
      refine ⟨by omega, ih.2.1, fun j h1 h2 => ?_⟩
      by_cases e : j = k + 1
      · rw [e]; omega
      · exact ih.2.2 j h1 (by omega)
theorem more_mono_fin : ∀ i : Fin 40, (moreN i.val 2).1 < (moreN (i.val + 1) 2).1 ∧ (moreN i.val 4).1 < (moreN (i.val + 1) 4).1 := by decide +kernel
theorem more_mono {g : Nat} (hg : g = 2 ∨ g = 4) {i j : Nat} (h : i ≤ j) (hj : j ≤ 40) : (moreN i g).1 ≤ (moreN j g).1 := by
  induction j with
  | zero =>
    obtain rfl : i = 0 := by omega
    exact Nat.le_refl _
  | succ j ih =>
    by_cases e : i = j + 1
    · rw [e]; exact Nat.le_refl _
    · have h1 := ih (by omega) (by omega)
      have h2 := more_mono_fin ⟨j, by omega⟩
      rcases hg with rfl | rfl
      · have := h2.1; simp only at this; omega
      · have := h2.2; simp only at this; omega
theorem more_zero {g : Nat} (hg : g = 2 ∨ g = 4) : (moreN 0 g).1 = 0 := by rcases hg with rfl | rfl <;> rfl
theorem stepOf_of {x g s : Nat} (hg : g = 2 ∨ g = 4) (h : IsStep x g s) (hs : s < 40) : s = stepOf x g := by
  obtain ⟨h1, h2, h3⟩ := stepF_spec x g 39 (by rw [more_zero hg]; omega)
  unfold stepOf
  rcases Nat.lt_trichotomy s (stepF x g 39) with h' | h' | h'
  · have := more_mono hg (i := s + 1) (j := stepF x g 39) h' (by omega)
    have := h.2
    omega
  · exact h'
  · have := h3 s h' (by omega)
    have := h.1
    omega
theorem stepOf_is {x g : Nat} (hg : g = 2 ∨ g = 4) (hx : x < 1000) : IsStep x g (stepOf x g) ∧ stepOf x g < 39 := by
  obtain ⟨h1, h2, h3⟩ := stepF_spec x g 39 (by rw [more_zero hg]; omega)
  have hb : 1000 ≤ (moreN 39 g).1 := by rcases hg with rfl | rfl <;> decide
  have hne : stepF x g 39 ≠ 39 := fun e => by rw [e] at h2; omega
  exact ⟨⟨h2, h3 _ (Nat.lt_succ_self _) (by unfold stepOf at *; omega)⟩, by unfold stepOf; omega⟩
/-- How many bytes from at on are those that stand d ahead of them, k at most. -/
def ml (f : Nat → Nat) (at_ d : Nat) : Nat → Nat
  | 0 => 0
  | k + 1 => if ml f at_ d k = k ∧ f (at_ + k) = f (at_ + k - d) then k + 1 else ml f at_ d k
theorem ml_le (f : Nat → Nat) (a d k : Nat) : ml f a d k ≤ k := by
  induction k with
  | zero => exact Nat.le_refl _
  | succ k ih => rw [ml]; split <;> omega
theorem ml_agree (f : Nat → Nat) (a d k j : Nat) (h : j < ml f a d k) : f (a + j) = f (a + j - d) := by
  induction k with
  | zero => simp [ml] at h
  | succ k ih =>
    rw [ml] at h
    split at h
    · rename_i h'
      by_cases e : j = k
      · rw [e]; exact h'.2
      · exact ih (by omega)
    · exact ih h
theorem ml_stop (f : Nat → Nat) (a d s : Nat) (h : ml f a d s = s) (hn : f (a + s) ≠ f (a + s - d)) (k : Nat) (hk : s ≤ k) : ml f a d k = s := by
  induction k with
  | zero =>
    obtain rfl : s = 0 := by omega
    exact h
  | succ k ih =>
    by_cases e : s = k + 1
    · rw [← e]; exact h
    · have := ih (by omega)
      rw [ml, this]
      split
      · rename_i h'
        have e2 : s = k := h'.1
        rw [← e2] at h'
        exact absurd h'.2 hn
      · rfl
theorem ml_step (f : Nat → Nat) (a d s : Nat) (h : ml f a d s = s) (he : f (a + s) = f (a + s - d)) : ml f a d (s + 1) = s + 1 := by rw [ml, if_pos ⟨h, he⟩]
/-- The greatest length of distances up to d, and the least distance that has it. -/
def best (f : Nat → Nat) (a most : Nat) : Nat → Nat × Nat
  | 0 => (0, 0)
  | d + 1 => if (best f a most d).1 < ml f a (d + 1) most then (ml f a (d + 1) most, d + 1) else best f a most d
theorem best_le (f : Nat → Nat) (a most d : Nat) : (best f a most d).1 ≤ most ∧ (best f a most d).2 ≤ d ∧ ((best f a most d).1 > 0 → 0 < (best f a most d).2 ∧ ml f a (best f a most d).2 most = (best f a most d).1) := by
  induction d with
  | zero => simp [best]
  | succ d ih =>
    rw [best]
    split
    · exact ⟨ml_le _ _ _ _, Nat.le_refl _, fun _ => ⟨Nat.succ_pos _, rfl⟩⟩
    · exact ⟨ih.1, Nat.le_succ_of_le ih.2.1, ih.2.2⟩
theorem best_full (f : Nat → Nat) (a most d : Nat) (h : (best f a most d).1 = most) (d' : Nat) (hd : d ≤ d') : best f a most d' = best f a most d := by
  induction d' with
  | zero =>
    obtain rfl : d = 0 := by omega
    rfl
  | succ k ih =>
    by_cases e : d = k + 1
    · rw [e]
    · have := ih (by omega)
      rw [best, this, if_neg]
      rw [h]
      have := ml_le f a (k + 1) most
      omega
/-- The greatest copy at a place of a text of n bytes. -/
def copyAt (f : Nat → Nat) (n a : Nat) : Nat × Nat := best f a (min 258 (n - a)) (min 512 a)
/-- The bits of a copy. -/
def lenBits (k : Nat) : List Bool := if k = 258 then codeBits (fixC 285).1 (fixC 285).2 else codeBits (fixC (257 + stepOf (k - 3) 4)).1 (fixC (257 + stepOf (k - 3) 4)).2 ++ numBits (k - 3 - (moreN (stepOf (k - 3) 4) 4).1) (moreN (stepOf (k - 3) 4) 4).2
def farBits (d : Nat) : List Bool := codeBits (stepOf (d - 1) 2) 5 ++ numBits (d - 1 - (moreN (stepOf (d - 1) 2) 2).1) (moreN (stepOf (d - 1) 2) 2).2
def signBits (s : Nat) : List Bool := codeBits (fixC s).1 (fixC s).2
/-- The bits of a text from a place on. -/
def deflF (f : Nat → Nat) (n : Nat) : Nat → Nat → List Bool
  | 0, _ => signBits 256
  | g + 1, a => if a < n then (if (copyAt f n a).1 < 3 then signBits (f a) ++ deflF f n g (a + 1) else lenBits (copyAt f n a).1 ++ farBits (copyAt f n a).2 ++ deflF f n g (a + (copyAt f n a).1)) else signBits 256
def deflB (f : Nat → Nat) (n a : Nat) : List Bool := deflF f n (n - a) a
theorem deflF_any (f : Nat → Nat) (n : Nat) : ∀ (g h a : Nat), n - a ≤ g → n - a ≤ h → deflF f n g a = deflF f n h a := by
  intro g
  induction g with
  | zero =>
    intro h a h1 _
    cases h with
    | zero => rfl
    | succ h => rw [deflF, deflF, if_neg (by omega)]
  | succ g ih =>
    intro h a h1 h2
    cases h with
    | zero => rw [deflF, deflF, if_neg (by omega)]
    | succ h =>
      rw [deflF, deflF]
      by_cases ha : a < n
      · rw [if_pos ha, if_pos ha]
        by_cases hc : (copyAt f n a).1 < 3
        · rw [if_pos hc, if_pos hc, ih h (a + 1) (by omega) (by omega)]
        · rw [if_neg hc, if_neg hc, ih h (a + (copyAt f n a).1) (by omega) (by omega)]
      · rw [if_neg ha, if_neg ha]
theorem deflB_unfold (f : Nat → Nat) (n a : Nat) : deflB f n a = if a < n then (if (copyAt f n a).1 < 3 then signBits (f a) ++ deflB f n (a + 1) else lenBits (copyAt f n a).1 ++ farBits (copyAt f n a).2 ++ deflB f n (a + (copyAt f n a).1)) else signBits 256 := by
  unfold deflB
  rw [deflF_any f n (n - a) (n - a + 1) a (Nat.le_refl _) (Nat.le_succ _), deflF]
  by_cases ha : a < n
  · rw [if_pos ha, if_pos ha]
    by_cases hc : (copyAt f n a).1 < 3
    · rw [if_pos hc, if_pos hc, deflF_any f n (n - a) (n - (a + 1)) (a + 1) (by omega) (Nat.le_refl _)]
    · rw [if_neg hc, if_neg hc, deflF_any f n (n - a) (n - (a + (copyAt f n a).1)) (a + (copyAt f n a).1) (by omega) (Nat.le_refl _)]
  · rw [if_neg ha, if_neg ha]
theorem copyAt_le (f : Nat → Nat) (n a : Nat) : (copyAt f n a).1 ≤ 258 ∧ (copyAt f n a).1 ≤ n - a ∧ (copyAt f n a).2 ≤ 512 ∧ (copyAt f n a).2 ≤ a ∧ ((copyAt f n a).1 > 0 → 0 < (copyAt f n a).2) := by
  obtain ⟨h1, h2, h3⟩ := best_le f a (min 258 (n - a)) (min 512 a)
  unfold copyAt
  exact ⟨by omega, by omega, by omega, by omega, fun h => (h3 h).1⟩
end Go.Proofs.Ytbhnlomppobbkaa.Ch
