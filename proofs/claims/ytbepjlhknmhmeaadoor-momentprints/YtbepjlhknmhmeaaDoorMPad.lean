/-
  Package moment: padded.
-/
import Derived.Test.YtbepjlhknmhmeaaDoorMColl
import Derived.Lib.ItoaNum
import Derived.Lib.Repeat
import Derived.Test.YtbepjlhknmhmeaaDoorShelf
namespace Go.Proofs.YtbepjlhknmhmeaaDoor
open Go.RowKit Ch
set_option maxRecDepth 100000

theorem repeat_zero (c : Nat) : Lib.repeatL [48] c = List.replicate c 48 := by
  induction c with
  | zero => rfl
  | succ c ih => rw [Lib.repeatL, ih]; rfl

theorem replicate_snoc (c : Nat) (x : UInt8) (t : List UInt8) : List.replicate (c + 1) x ++ t = List.replicate c x ++ (x :: t) := by
  rw [List.replicate_succ', List.append_assoc]; rfl
theorem padL_zero : ∀ k, padL k 0 = List.replicate k 48
  | 0 => rfl
  | k + 1 => by
    rw [padL, Nat.zero_div, padL_zero k, List.replicate_succ']
    rfl
/-- Noughts, then the digits. -/
theorem padL_digits : ∀ (k n : Nat), (Lib.decDigits n).length ≤ k → List.replicate (k - (Lib.decDigits n).length) 48 ++ Lib.decDigits n = padL k n
  | 0, n, h => by
    exfalso
    rw [Lib.decDigits] at h
    split at h <;> simp at h
  | k + 1, n, h => by
    by_cases h9 : n < 10
    · rw [Lib.decDigits_one h9, padL, Nat.div_eq_of_lt h9, padL_zero, Nat.mod_eq_of_lt h9]
      rfl
    · rw [Lib.decDigits, dif_neg h9] at h ⊢
      rw [List.length_append, List.length_singleton] at h ⊢
      rw [padL, ← padL_digits k (n / 10) (by omega), ← List.append_assoc]
      congr 3
      omega
theorem digits_le : ∀ (k n : Nat), n < 10 ^ (k + 1) → (Lib.decDigits n).length ≤ k + 1
  | 0, n, h => by rw [Lib.decDigits_one (by simpa using h)]; simp
  | k + 1, n, h => by
    by_cases h9 : n < 10
    · rw [Lib.decDigits_one h9]; simp
    · rw [Lib.decDigits, dif_neg h9, List.length_append, List.length_singleton]
      have := digits_le k (n / 10) (by rw [Nat.pow_succ] at h; omega)
      omega

theorem below_grow (w : World) (k : Nat) (os : Array Obj) : Below w.heap.size w (Sort.grow (w.drewN k) os) := by
  refine ⟨rfl, rfl, rfl, ?_, ?_⟩
  · show w.heap.size ≤ (w.heap ++ os).size
    simp
  · intro j hj
    show (w.heap ++ os)[j]? = w.heap[j]?
    exact Array.getElem?_append_left hj

theorem mPad_any (n k : Nat) (w : World) (h10 : Lib.TabIs Tryd.prog w "internal/strconv.uint64pow10" .u64 Lib.pow10Tab) (hk : k < 9) (hn : n < 10 ^ (k + 1)) :
    Calls Tryd.prog 22 #[.int .i64 n, .int .i64 ((k + 1 : Nat) : Int)] w fun e w' => e = .returned (.string ⟨(padL (k + 1) n).toArray⟩) ∧ Below w.heap.size w w' := by
  have hb : n < 10 ^ 10 := Nat.lt_of_lt_of_le hn (Nat.pow_le_pow_right (by decide) (by omega))
  have hl := digits_le k n hn
  have hp := padL_digits (k + 1) n hl
  have hi : Lib.itoa (n : Int) = Lib.decDigits n := by unfold Lib.itoa; rw [if_neg (by omega)]; rfl
  have hI := Tryd.strconv_Itoa (n : Int) (by omega) (by omega) w h10
  rw [hi] at hI
  go_enter Tryd.func22, Tryd.ntmps22
  go_wp2_with fail
  refine hI.mono ?_
  rintro e w1 ⟨rfl, q, os, rfl⟩
  have hB := below_grow w q os
  generalize hW : Sort.grow (w.drewN q) os = w1 at hB ⊢
  clear hW hI
  have hD : (⟨(Lib.decDigits n).toArray⟩ : ByteArray).size = (Lib.decDigits n).length := by simp [ByteArray.size]
  have hR := Tryd.strings_Repeat ⟨#[48]⟩ (k + 1 - (Lib.decDigits n).length) w1 (by omega) (by simp only [ByteArray.size, List.size_toArray, List.length_singleton]; omega)
  have he : ((k : Int) + 1 - ((Lib.decDigits n).length : Int)) = ((k + 1 - (Lib.decDigits n).length : Nat) : Int) := by omega
  go_wp2_with fail
  refine hR.mono ?_
  rintro e w2 ⟨rfl, hB2⟩
  have hc : (Lib.repeatL [48] (k + 1 - (Lib.decDigits n).length)).length + (Lib.decDigits n).length ≤ 9223372036854775807 := by
    rw [repeat_zero, List.length_replicate]; omega
  go_wp2_with fail
  go_ret
  refine ⟨?_, bl2 hB hB2⟩
  rw [← hp, ← repeat_zero]
  simp [go_sem]
  apply ByteArray.ext
  simp
end Go.Proofs.YtbepjlhknmhmeaaDoor
