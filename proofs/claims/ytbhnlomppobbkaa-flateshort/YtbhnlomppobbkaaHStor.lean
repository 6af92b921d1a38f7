/-
  PLAIN: a text in blocks as it is.
-/
import Derived.Test.YtbhnlomppobbkaaHPack
namespace Go.Proofs.Ytbhnlomppobbkaa.Ch

/-- The beginning of a block of n bytes as they are. -/
def headL (last : Bool) (n : Nat) : List UInt8 := [UInt8.ofNat last.toNat, UInt8.ofNat (n % 256), UInt8.ofNat (n / 256), UInt8.ofNat ((65535 - n) % 256), UInt8.ofNat ((65535 - n) / 256)]
def storedF : Nat → List UInt8 → List UInt8
  | 0, l => headL true l.length ++ l
  | f + 1, l => if l.length ≤ 65535 then headL true l.length ++ l else headL false 65535 ++ l.take 65535 ++ storedF f (l.drop 65535)
def storedL (l : List UInt8) : List UInt8 := storedF l.length l
theorem storedF_any : ∀ (f g : Nat) (l : List UInt8), l.length ≤ f → l.length ≤ g → storedF f l = storedF g l := by
  intro f
  induction f with
  | zero =>
    intro g l h1 _
    cases g with
    | zero => rfl
    | succ g => rw [storedF, storedF, if_pos (by omega)]
  | succ f ih =>
    intro g l h1 h2
    cases g with
    | zero => rw [storedF, storedF, if_pos (by omega)]
    | succ g =>
      rw [storedF, storedF]
      by_cases hl : l.length ≤ 65535
      · rw [if_pos hl, if_pos hl]
      · rw [if_neg hl, if_neg hl, ih g (l.drop 65535) (by rw [List.length_drop]; omega) (by rw [List.length_drop]; omega)]
theorem storedL_last {l : List UInt8} (h : l.length ≤ 65535) : storedL l = headL true l.length ++ l := by
  unfold storedL
  rw [storedF_any l.length (l.length + 1) l (Nat.le_refl _) (Nat.le_succ _), storedF, if_pos h]
theorem storedL_more {l : List UInt8} (h : ¬ l.length ≤ 65535) : storedL l = headL false 65535 ++ l.take 65535 ++ storedL (l.drop 65535) := by
  unfold storedL
  rw [storedF_any l.length (l.length + 1) l (Nat.le_refl _) (Nat.le_succ _), storedF, if_neg h, storedF_any l.length (l.drop 65535).length (l.drop 65535) (by rw [List.length_drop]; omega) (Nat.le_refl _)]
theorem headL_length (last : Bool) (n : Nat) : (headL last n).length = 5 := rfl
theorem storedL_length : ∀ (k : Nat) (l : List UInt8), l.length ≤ k → (storedL l).length = l.length + 5 * max 1 ((l.length + 65534) / 65535) := by
  intro k
  induction k with
  | zero =>
    intro l h
    rw [storedL_last (by omega), List.length_append, headL_length]
    omega
  | succ k ih =>
    intro l h
    by_cases hl : l.length ≤ 65535
    · rw [storedL_last hl, List.length_append, headL_length]
      omega
    · rw [storedL_more hl, List.length_append, List.length_append, headL_length, ih _ (by rw [List.length_drop]; omega), List.length_drop, List.length_take]
      omega
theorem xor_full (n : Nat) (h : n < 65536) : n ^^^ 65535 = 65535 - n := by
  apply Nat.eq_of_testBit_eq
  intro i
  have e1 : (65535 : Nat) = 2 ^ 16 - 1 := rfl
  have e2 : 65535 - n = 2 ^ 16 - (n + 1) := by omega
  rw [Nat.testBit_xor, e2, Nat.testBit_two_pow_sub_succ (by omega), e1, Nat.testBit_two_pow_sub_one]
  by_cases hi : i < 16
  · simp [hi]
  · have : n.testBit i = false := Nat.testBit_lt_two_pow (Nat.lt_of_lt_of_le (show n < 2 ^ 16 by omega) (Nat.pow_le_pow_right (by omega) (by omega)))
    simp [hi, this]
end Go.Proofs.Ytbhnlomppobbkaa.Ch
