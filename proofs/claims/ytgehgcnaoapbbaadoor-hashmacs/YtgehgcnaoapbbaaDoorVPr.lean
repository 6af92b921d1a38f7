/-
  The document's words, reckoned.
-/
import Derived.Test.YtgehgcnaoapbbaaDoorVRoot
namespace Go.Proofs.YtgehgcnaoapbbaaDoor
open Go.RowKit Ch
set_option maxRecDepth 100000

/-- The primes below j + 2. -/
def prK : Nat → List Nat
  | 0 => []
  | j + 1 => if (prK j).all (fun d => (j + 2) % d != 0) then prK j ++ [j + 2] else prK j
theorem prK_310 : (prK 310).length = 64 := by decide +kernel
theorem prK_309 : (prK 309).length = 63 := by decide +kernel
theorem prK_mono (i j : Nat) (h : i ≤ j) : (prK i).length ≤ (prK j).length := by
  induction j with
  | zero => rw [show i = 0 by omega]; exact Nat.le_refl _
  | succ j ih =>
    by_cases hij : i = j + 1
    · rw [hij]; exact Nat.le_refl _
    · have := ih (by omega)
      have h2 : (prK j).length ≤ (prK (j + 1)).length := by
        rw [prK]
        split
        · rw [List.length_append]; omega
        · exact Nat.le_refl _
      omega
theorem prK_pos (j : Nat) : ∀ d ∈ prK j, 2 ≤ d ∧ d < j + 2 := by
  induction j with
  | zero => intro d hd; cases hd
  | succ j ih =>
    intro d hd
    rw [prK] at hd
    split at hd
    · rcases List.mem_append.1 hd with h | h
      · have := ih d h; omega
      · simp at h; omega
    · have := ih d hd; omega
end Go.Proofs.YtgehgcnaoapbbaaDoor
