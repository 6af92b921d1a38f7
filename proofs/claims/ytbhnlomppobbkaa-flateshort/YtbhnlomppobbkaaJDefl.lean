/-
  The reference's Deflate.
-/
import Derived.Test.YtbhnlomppobbkaaJWord
import Derived.Test.YtbhnlomppobbkaaJLeast
import Derived.Test.YtbhnlomppobbkaaJFix
import Derived.Test.YtbhnlomppobbkaaJCodes
import Derived.Test.YtbhnlomppobbkaaJBits
import Derived.Test.YtbhnlomppobbkaaHW6
namespace Go.Proofs.Ytbhnlomppobbkaa
open Go.RowKit Ch
set_option maxRecDepth 100000

theorem codeOf_fixed (s : Nat) (h : s < 288) : codeOf fixedL s = fixC s := by
  unfold codeOf
  have hget : fixedL[s]? = some (fixC s).2 := by unfold fixedL; rw [List.getElem?_map, List.getElem?_range h]; rfl
  rw [hget]
  simp only
  have hw := fixC_wide s
  have hf := fix_fin ⟨s, h⟩
  simp only at hf
  rw [if_pos (by omega), hf.1]
theorem codeOf_far (s : Nat) (h : s < 32) : codeOf fixedD s = (s, 5) := by
  unfold codeOf
  have hget : fixedD[s]? = some 5 := by unfold fixedD; rw [List.getElem?_replicate, if_pos h]
  rw [hget]
  simp only
  have hf := far_fin ⟨s, h⟩
  simp only at hf
  rw [if_pos (by omega), hf]
theorem fixed_le : ∀ i n : Nat, fixedL[i]? = some n → n ≤ 15 := by
  intro i n h
  unfold fixedL at h
  rw [List.getElem?_map] at h
  cases hr : (List.range 288)[i]? with
  | none => rw [hr] at h; cases h
  | some x =>
    rw [hr] at h
    have := fixC_wide x
    simp only [Option.map_some, Option.some.injEq] at h
    omega
theorem far_le : ∀ i n : Nat, fixedD[i]? = some n → n ≤ 15 := by
  intro i n h
  unfold fixedD at h
  rw [List.getElem?_replicate] at h
  split at h
  · simp only [Option.some.injEq] at h; omega
  · cases h
/-- The last sign whose least length isn't beyond k. -/
def lenSign (k : Nat) : Nat := if k = 258 then 28 else stepOf (k - 3) 4
theorem least_small : ∀ i : Fin 29, (leastN i.val).1 ≤ 258 ∧ (leastN i.val).2 ≤ 5 := by decide +kernel
theorem leastN_mono : ∀ i : Fin 28, (leastN i.val).1 < (leastN (i.val + 1)).1 := by decide +kernel
theorem leastN_le {i j : Nat} (h : i ≤ j) (hj : j ≤ 28) : (leastN i).1 ≤ (leastN j).1 := by
  induction j with
  | zero =>
    obtain rfl : i = 0 := by omega
    exact Nat.le_refl _
  | succ j ih =>
    by_cases e : i = j + 1
    · rw [e]; exact Nat.le_refl _
    · have := ih (by omega) (by omega)
      have := leastN_mono ⟨j, by omega⟩
      simp only at this
      omega
theorem lenSign_is {k : Nat} (hk : 3 ≤ k) (hk2 : k ≤ 258) : lenSign k ≤ 28 ∧ (leastN (lenSign k)).1 ≤ k ∧ (lenSign k < 28 → k < (leastN (lenSign k + 1)).1) := by
  unfold lenSign
  by_cases e : k = 258
  · rw [if_pos e]
    exact ⟨by omega, by rw [e]; decide, fun h => by omega⟩
  · rw [if_neg e]
    have h4 := step_lt4 (show k - 3 < 256 by omega)
    obtain ⟨⟨h1, h2⟩, h3⟩ := stepOf_is (g := 4) (.inr rfl) (show k - 3 < 1000 by omega)
    refine ⟨by omega, ?_, fun _ => ?_⟩
    · unfold leastN
      rw [if_neg (by omega)]
      simp only
      omega
    · unfold leastN
      by_cases e2 : stepOf (k - 3) 4 + 1 = 28
      · rw [if_pos e2]
        simp only
        omega
      · rw [if_neg e2]
        simp only
        omega
theorem lenSign_of {k i : Nat} (hk : 3 ≤ k) (hk2 : k ≤ 258) (hi : i ≤ 28) (h1 : (leastN i).1 ≤ k) (h2 : i < 28 → k < (leastN (i + 1)).1) : i = lenSign k := by
  obtain ⟨a1, a2, a3⟩ := lenSign_is hk hk2
  rcases Nat.lt_trichotomy i (lenSign k) with h | h | h
  · have := leastN_le (i := i + 1) (j := lenSign k) h a1
    have := h2 (by omega)
    omega
  · exact h
  · have := leastN_le (i := lenSign k + 1) (j := i) h hi
    have := a3 (by omega)
    omega
theorem lenBits_is {k : Nat} (hk : 3 ≤ k) (hk2 : k ≤ 258) : lenBits k = signBits (257 + lenSign k) ++ numBits (k - (leastN (lenSign k)).1) (leastN (lenSign k)).2 := by
  unfold lenBits lenSign leastN
  by_cases e : k = 258
  · rw [if_pos e, if_pos e, if_pos rfl]
    simp only [signBits, numBits, List.range_zero, List.map_nil, List.append_nil]
  · have h4 := step_lt4 (show k - 3 < 256 by omega)
    rw [if_neg e, if_neg e, if_neg (by omega)]
    simp only [signBits, Nat.sub_sub]
theorem farBits_is (d : Nat) : farBits d = codeBits (stepOf (d - 1) 2) 5 ++ numBits (d - (farN (stepOf (d - 1) 2)).1) (farN (stepOf (d - 1) 2)).2 := by
  unfold farBits farN
  simp only [Nat.sub_sub]
theorem stepOf_far {d i : Nat} (hd : 1 ≤ d) (h1 : (farN i).1 ≤ d) (hi : i < 29) (h2 : d < (farN (i + 1)).1) : i = stepOf (d - 1) 2 := by
  unfold farN at h1 h2
  simp only at h1 h2
  exact stepOf_of (.inl rfl) ⟨by omega, by omega⟩ (by omega)
end Go.Proofs.Ytbhnlomppobbkaa
