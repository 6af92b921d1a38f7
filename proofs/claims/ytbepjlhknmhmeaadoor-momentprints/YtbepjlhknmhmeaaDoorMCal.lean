/-
  The calendar: days from 0001-01-01 on. No program is named here.
-/
namespace Go.Proofs.YtbepjlhknmhmeaaDoor

def leapB (y : Nat) : Bool := (y % 4 == 0 && y % 100 != 0) || y % 400 == 0
/-- How many days a month has. -/
def lenM (y m : Nat) : Nat := if m = 2 then (if leapB y then 29 else 28) else if m = 4 ∨ m = 6 ∨ m = 9 ∨ m = 11 then 30 else 31
/-- Days ahead of a year; of the months up to m of a year. -/
def aheadY (y : Nat) : Nat := 365 * (y - 1) + (y - 1) / 4 - (y - 1) / 100 + (y - 1) / 400
def aheadM (y : Nat) : Nat → Nat
  | 0 => 0
  | m + 1 => aheadM y m + lenM y (m + 1)
/-- How far a day lies behind 0001-01-01. -/
def dayN (y m d : Nat) : Nat := aheadY y + aheadM y (m - 1) + (d - 1)
def IsDay (y m d : Nat) : Prop := (1 ≤ y ∧ y ≤ 9999) ∧ (1 ≤ m ∧ m ≤ 12) ∧ 1 ≤ d ∧ d ≤ lenM y m
instance (y m d : Nat) : Decidable (IsDay y m d) := by unfold IsDay; infer_instance
theorem lenM_bounds (y m : Nat) : 28 ≤ lenM y m ∧ lenM y m ≤ 31 := by
  unfold lenM
  split
  · split <;> omega
  · split <;> omega
theorem year_days (y : Nat) : aheadM y 12 = if leapB y then 366 else 365 := by
  simp only [aheadM, lenM]
  cases leapB y <;> simp
theorem year_next (y : Nat) (h : 1 ≤ y) : aheadY (y + 1) = aheadY y + aheadM y 12 := by
  rw [year_days]
  unfold aheadY leapB
  have e : y + 1 - 1 = y := rfl
  rw [e]
  by_cases h4 : y % 4 = 0
  · by_cases h100 : y % 100 = 0
    · by_cases h400 : y % 400 = 0
      · simp only [h4, h100, h400]
        simp
        omega
      · simp only [h4, h100]
        simp [h400]
        omega
    · have h400 : ¬ y % 400 = 0 := by omega
      simp only [h4]
      simp [h100, h400]
      omega
  · have h100 : ¬ y % 100 = 0 := by omega
    have h400 : ¬ y % 400 = 0 := by omega
    simp [h4, h100, h400]
    omega
theorem aheadM_mono (y : Nat) : ∀ {a b : Nat}, a ≤ b → aheadM y a ≤ aheadM y b
  | a, 0, h => by
    obtain rfl : a = 0 := by omega
    exact Nat.le_refl _
  | a, b + 1, h => by
    rcases Nat.lt_or_eq_of_le h with h1 | h1
    · exact Nat.le_trans (aheadM_mono y (by omega)) (Nat.le_add_right _ _)
    · rw [h1]
      exact Nat.le_refl _
theorem aheadY_le {a b : Nat} (h1 : 1 ≤ a) (h : a ≤ b) : aheadY a ≤ aheadY b := by
  induction b with
  | zero => omega
  | succ b ih =>
    rcases Nat.lt_or_eq_of_le h with h2 | h2
    · rw [year_next b (by omega)]
      exact Nat.le_trans (ih (by omega)) (Nat.le_add_right _ _)
    · rw [h2]
      exact Nat.le_refl _
/-- A day lies within its month, and its month within its year. -/
theorem day_month {y m d : Nat} (hm1 : 1 ≤ m) (hd1 : 1 ≤ d) (hd : d ≤ lenM y m) : aheadM y (m - 1) + (d - 1) < aheadM y m := by
  obtain ⟨k, rfl⟩ : ∃ k, m = k + 1 := ⟨m - 1, by omega⟩
  simp only [Nat.add_sub_cancel, aheadM]
  omega
theorem day_year {y m d : Nat} (h : IsDay y m d) : aheadY y ≤ dayN y m d ∧ dayN y m d < aheadY (y + 1) := by
  obtain ⟨⟨h1, h2⟩, ⟨h3, h4⟩, h5, h6⟩ := h
  have a := day_month h3 h5 h6
  have b := aheadM_mono y h4
  rw [year_next y h1]
  unfold dayN
  omega
theorem dayN_lt {y m d y' m' d' : Nat} (h : IsDay y m d) (h' : IsDay y' m' d') : dayN y m d < dayN y' m' d' ↔ y < y' ∨ (y = y' ∧ (m < m' ∨ (m = m' ∧ d < d'))) := by
  have a := day_year h
  have a' := day_year h'
  obtain ⟨⟨h1, h2⟩, ⟨h3, h4⟩, h5, h6⟩ := h
  obtain ⟨⟨k1, k2⟩, ⟨k3, k4⟩, k5, k6⟩ := h'
  have b := day_month h3 h5 h6
  have b' := day_month k3 k5 k6
  rcases Nat.lt_trichotomy y y' with hy | hy | hy
  · have := aheadY_le (by omega) (show y + 1 ≤ y' from hy)
    constructor
    · intro _
      exact .inl hy
    · intro _
      omega
  · subst hy
    rcases Nat.lt_trichotomy m m' with hm | hm | hm
    · have := aheadM_mono y (show m ≤ m' - 1 by omega)
      constructor
      · intro _
        exact .inr ⟨rfl, .inl hm⟩
      · intro _
        unfold dayN
        omega
    · subst hm
      unfold dayN
      constructor
      · intro _
        exact .inr ⟨rfl, .inr ⟨rfl, by omega⟩⟩
      · intro hc
        rcases hc with hc | ⟨_, hc | ⟨_, hc⟩⟩
        · omega
        · omega
        · omega
    · have := aheadM_mono y (show m' ≤ m - 1 by omega)
      constructor
      · intro hc
        unfold dayN at hc
        omega
      · intro hc
        rcases hc with hc | ⟨_, hc | ⟨hc, _⟩⟩
        · omega
        · omega
        · omega
  · have := aheadY_le (by omega) (show y' + 1 ≤ y from hy)
    constructor
    · intro _
      omega
    · intro hc
      rcases hc with hc | ⟨hc, _⟩
      · omega
      · omega
theorem dayN_inj {y m d y' m' d' : Nat} (h : IsDay y m d) (h' : IsDay y' m' d') (e : dayN y m d = dayN y' m' d') : y = y' ∧ m = m' ∧ d = d' := by
  have a := dayN_lt h h'
  have b := dayN_lt h' h
  have n1 : ¬ dayN y m d < dayN y' m' d' := by omega
  have n2 : ¬ dayN y' m' d' < dayN y m d := by omega
  rw [a] at n1
  rw [b] at n2
  omega
theorem aheadY_end : aheadY 10000 = 3652059 := by decide
theorem aheadY_one : aheadY 1 = 0 := by decide
/-- Each of these days is one of a month of a year. -/
theorem day_ex (n : Nat) (h : n < 3652059) : ∃ y m d, IsDay y m d ∧ dayN y m d = n := by
  have hy : ∀ k, k ≤ 9999 → n < aheadY (k + 1) → ∃ y, 1 ≤ y ∧ y ≤ k ∧ aheadY y ≤ n ∧ n < aheadY (y + 1) := by
    intro k
    induction k with
    | zero =>
      intro _ h2
      rw [aheadY_one] at h2
      omega
    | succ k ih =>
      intro h1 h2
      by_cases h3 : n < aheadY (k + 1)
      · obtain ⟨y, a, b, c⟩ := ih (by omega) h3
        exact ⟨y, a, by omega, c⟩
      · exact ⟨k + 1, by omega, Nat.le_refl _, by omega, h2⟩
  obtain ⟨y, y1, y2, y3, y4⟩ := hy 9999 (Nat.le_refl _) (by rw [aheadY_end]; exact h)
  rw [year_next y y1] at y4
  have hm : ∀ k, n - aheadY y < aheadM y k → ∃ m, 1 ≤ m ∧ m ≤ k ∧ aheadM y (m - 1) ≤ n - aheadY y ∧ n - aheadY y < aheadM y m := by
    intro k
    induction k with
    | zero =>
      intro h2
      simp only [aheadM] at h2
      omega
    | succ k ih =>
      intro h2
      by_cases h3 : n - aheadY y < aheadM y k
      · obtain ⟨m, a, b, c⟩ := ih h3
        exact ⟨m, a, by omega, c⟩
      · exact ⟨k + 1, by omega, Nat.le_refl _, by simpa using h3, h2⟩
  obtain ⟨m, m1, m2, m3, m4⟩ := hm 12 (by omega)
  obtain ⟨k, rfl⟩ : ∃ k, m = k + 1 := ⟨m - 1, by omega⟩
  simp only [Nat.add_sub_cancel, aheadM] at m3 m4
  refine ⟨y, k + 1, n - aheadY y - aheadM y k + 1, ⟨⟨y1, y2⟩, ⟨m1, m2⟩, by omega, by omega⟩, ?_⟩
  unfold dayN
  simp only [Nat.add_sub_cancel]
  omega
end Go.Proofs.YtbepjlhknmhmeaaDoor
