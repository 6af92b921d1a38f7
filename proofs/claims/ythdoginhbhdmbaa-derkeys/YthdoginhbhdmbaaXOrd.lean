/-
  Orders of bytes as numbers (out of NOrd).
-/
import Derived.Test.YthdoginhbhdmbaaNCmpIEtc
import Derived.Test.YthdoginhbhdmbaaNBareEtc
namespace Go.Proofs.Ythdoginhbhdmbaa
open Go.RowKit Ch
set_option maxRecDepth 100000

theorem compare_num : ∀ (l m : List UInt8), l.length = m.length → (Lib.compareBytes l m < 0 ↔ numB l < numB m) ∧ (Lib.compareBytes l m = 0 ↔ numB l = numB m)
  | [], [], _ => by simp [Lib.compareBytes]
  | [], _ :: _, h => by simp at h
  | _ :: _, [], h => by simp at h
  | a :: xs, b :: ys, h => by
    have hl : xs.length = ys.length := by simpa using h
    obtain ⟨i1, i2⟩ := compare_num xs ys hl
    rw [Lib.compareBytes, numB_cons, numB_cons, hl]
    have h1 := numB_lt xs
    have h2 := numB_lt ys
    rw [hl] at h1
    by_cases hab : a < b
    · rw [if_pos hab]
      have h3 : a.toNat + 1 ≤ b.toNat := hab
      have h4 : (a.toNat + 1) * 256 ^ ys.length ≤ b.toNat * 256 ^ ys.length := Nat.mul_le_mul_right _ h3
      rw [Nat.add_mul, Nat.one_mul] at h4
      exact ⟨⟨fun _ => by omega, fun _ => by decide⟩, ⟨fun h => absurd h (by decide), fun h => by omega⟩⟩
    · rw [if_neg hab]
      by_cases hba : b < a
      · rw [if_pos hba]
        have h3 : b.toNat + 1 ≤ a.toNat := hba
        have h4 : (b.toNat + 1) * 256 ^ ys.length ≤ a.toNat * 256 ^ ys.length := Nat.mul_le_mul_right _ h3
        rw [Nat.add_mul, Nat.one_mul] at h4
        exact ⟨⟨fun h => by omega, fun _ => by omega⟩, ⟨fun h => absurd h (by decide), fun h => by omega⟩⟩
      · rw [if_neg hba]
        have e : a.toNat = b.toNat := by
          have h5 : ¬ a.toNat < b.toNat := hab
          have h6 : ¬ b.toNat < a.toNat := hba
          omega
        rw [e, i1, i2]
        constructor <;> omega
theorem bare_short {l m : List UInt8} (hm : bareL m = m) (h : l.length < m.length) : numB l < numB m := by
  have h1 := numB_lt l
  have h2 := numB_ge hm (by intro e; subst e; simp at h)
  have h3 : 256 ^ l.length ≤ 256 ^ (m.length - 1) := Nat.pow_le_pow_right (by decide) (by omega)
  omega
theorem bare_bare (l : List UInt8) : bareL (bareL l) = bareL l := by unfold bareL; exact dropWhile_again _ _
theorem cmp_num (a b : List UInt8) : (cmpL a b < 0 ↔ numB a < numB b) ∧ (cmpL a b = 0 ↔ numB a = numB b) := by
  unfold cmpL
  rw [← numB_bare a, ← numB_bare b]
  have ha := bare_bare a
  have hb := bare_bare b
  generalize bareL a = l at *
  generalize bareL b = m at *
  by_cases h : l.length = m.length
  · rw [if_pos h]
    exact compare_num l m h
  · rw [if_neg h]
    unfold cmpI
    by_cases h2 : l.length < m.length
    · have h3 := bare_short hb h2
      have h4 : (l.length : Int) < (m.length : Int) := by omega
      rw [if_pos h4]
      exact ⟨⟨fun _ => h3, fun _ => by decide⟩, ⟨fun h => absurd h (by decide), fun h => by omega⟩⟩
    · have h3 := bare_short ha (show m.length < l.length by omega)
      have h4 : ¬ (l.length : Int) < (m.length : Int) := by omega
      have h5 : (m.length : Int) < (l.length : Int) := by omega
      rw [if_neg h4, if_pos h5]
      exact ⟨⟨fun h => absurd h (by decide), fun h => by omega⟩, ⟨fun h => absurd h (by decide), fun h => by omega⟩⟩
end Go.Proofs.Ythdoginhbhdmbaa
