/-
  Bytes as numbers, the greatest first: plain facts. (Out of NPl, which wants all of package nat.)
-/
import Derived.Test.YthdoginhbhdmbaaNBare
namespace Go.Proofs.Ythdoginhbhdmbaa
open Go.RowKit Ch
set_option maxRecDepth 100000

theorem dropWhile_again {α : Type} (p : α → Bool) (l : List α) : (l.dropWhile p).dropWhile p = l.dropWhile p := by
  induction l with
  | nil => rfl
  | cons x l ih =>
    rw [List.dropWhile_cons]
    split
    · exact ih
    · rename_i h
      rw [List.dropWhile_cons, if_neg h]
/-- Bytes as a number, the greatest first. -/
def numB (l : List UInt8) : Nat := l.foldl (fun n c => n * 256 + c.toNat) 0
theorem numB_snoc (l : List UInt8) (c : UInt8) : numB (l ++ [c]) = numB l * 256 + c.toNat := by simp [numB]
theorem numB_from : ∀ (l : List UInt8) (n : Nat), l.foldl (fun n c => n * 256 + c.toNat) n = n * 256 ^ l.length + l.foldl (fun n c => n * 256 + c.toNat) 0 := by
  intro l
  induction l with
  | nil => intro n; simp
  | cons d l ih =>
    intro n
    rw [List.foldl_cons, ih, List.foldl_cons, ih (0 * 256 + d.toNat), List.length_cons, Nat.pow_succ, Nat.mul_comm (256 ^ l.length) 256, Nat.add_mul, ← Nat.mul_assoc, Nat.zero_mul, Nat.zero_add, Nat.add_assoc]
theorem numB_cons (c : UInt8) (l : List UInt8) : numB (c :: l) = c.toNat * 256 ^ l.length + numB l := by
  unfold numB
  rw [List.foldl_cons, numB_from]
  simp
theorem numB_lt (l : List UInt8) : numB l < 256 ^ l.length := by
  induction l with
  | nil => simp [numB]
  | cons c l ih =>
    rw [numB_cons, List.length_cons, Nat.pow_succ]
    have h1 := c.toNat_lt
    have h2 : (c.toNat + 1) * 256 ^ l.length ≤ 256 * 256 ^ l.length := Nat.mul_le_mul_right _ (by omega)
    rw [Nat.add_mul, Nat.one_mul] at h2
    rw [Nat.mul_comm (256 ^ l.length)]
    omega
theorem numB_bare (l : List UInt8) : numB (bareL l) = numB l := by
  induction l with
  | nil => rfl
  | cons c l ih =>
    by_cases h : c = 0
    · subst h
      rw [bareL_zero, ih, numB_cons]
      simp
    · rw [bareL_stop h]
theorem numB_ge {l : List UInt8} (h : bareL l = l) (h0 : l ≠ []) : 256 ^ (l.length - 1) ≤ numB l := by
  cases l with
  | nil => exact absurd rfl h0
  | cons c l =>
    have hc : c ≠ 0 := by
      intro e
      subst e
      rw [bareL_zero] at h
      have h1 : (bareL l).length ≤ l.length := (List.dropWhile_sublist _).length_le
      have := congrArg List.length h
      simp at this
      omega
    have hc2 : 1 ≤ c.toNat := by
      apply Nat.pos_of_ne_zero
      intro e
      exact hc (UInt8.toNat.inj e)
    rw [numB_cons]
    have : 1 * 256 ^ l.length ≤ c.toNat * 256 ^ l.length := Nat.mul_le_mul_right _ hc2
    simp
    omega
theorem numB_inj_len : ∀ (n : Nat) (l m : List UInt8), l.length = n → m.length = n → numB l = numB m → l = m := by
  intro n
  induction n with
  | zero =>
    intro l m h1 h2 _
    rw [List.eq_nil_of_length_eq_zero h1, List.eq_nil_of_length_eq_zero h2]
  | succ n ih =>
    intro l m h1 h2 h3
    rcases List.eq_nil_or_concat l with rfl | ⟨l', c, rfl⟩
    · simp at h1
    rcases List.eq_nil_or_concat m with rfl | ⟨m', d, rfl⟩
    · simp at h2
    rw [List.concat_eq_append] at h1 h3 ⊢
    rw [List.concat_eq_append] at h2 h3 ⊢
    rw [numB_snoc, numB_snoc] at h3
    have hc := c.toNat_lt
    have hd := d.toNat_lt
    have e1 : numB l' = numB m' := by omega
    have e2 : c.toNat = d.toNat := by omega
    rw [ih l' m' (by simpa using h1) (by simpa using h2) e1, UInt8.toNat.inj e2]
theorem numB_inj {l m : List UInt8} (hl : bareL l = l) (hm : bareL m = m) (h : numB l = numB m) : l = m := by
  have key : ∀ a b : List UInt8, bareL a = a → numB a = numB b → a.length ≤ b.length := by
    intro a b ha he
    apply Classical.byContradiction
    intro hn
    have h0 : a ≠ [] := by intro e; subst e; simp at hn
    have h1 := numB_ge ha h0
    have h2 := numB_lt b
    have h3 : 256 ^ b.length ≤ 256 ^ (a.length - 1) := Nat.pow_le_pow_right (by decide) (by omega)
    omega
  have h1 := key l m hl h
  have h2 := key m l hm h.symm
  exact numB_inj_len _ l m rfl (by omega) h
theorem numB_take {l : List UInt8} {i : Nat} {c : UInt8} (h : l[i]? = some c) : numB (l.take (i + 1)) = numB (l.take i) * 256 + c.toNat := by
  rw [List.take_add_one, h]
  exact numB_snoc _ _
end Go.Proofs.Ythdoginhbhdmbaa
