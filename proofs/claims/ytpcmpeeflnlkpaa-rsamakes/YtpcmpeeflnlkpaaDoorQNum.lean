/-
  Primes, without a library: Pratt's certificates; a power by d and by e below the product of two primes. No program is named here.
-/
namespace Go.Proofs.YtpcmpeeflnlkpaaDoor

/-- A power's rest, for reckoning. -/
def pmod (n : Nat) : Nat → Nat → Nat → Nat
  | 0, _, _ => 1 % n
  | f + 1, a, e => if e = 0 then 1 % n else if e % 2 = 1 then a * pmod n f (a * a % n) (e / 2) % n else pmod n f (a * a % n) (e / 2)
theorem pow_modL (a n e : Nat) : (a % n) ^ e % n = a ^ e % n := (Nat.pow_mod a e n).symm
theorem pmod_eq (n : Nat) : ∀ (f a e : Nat), e < 2 ^ f → pmod n f a e = a ^ e % n
  | 0, a, e, h => by
    obtain rfl : e = 0 := by simpa using h
    rfl
  | f + 1, a, e, h => by
    rw [pmod]
    by_cases h0 : e = 0
    · subst h0
      rw [if_pos rfl, Nat.pow_zero]
    · rw [if_neg h0]
      have hh : e / 2 < 2 ^ f := by rw [Nat.pow_succ] at h; omega
      have ih := pmod_eq n f (a * a % n) (e / 2) hh
      rw [ih, pow_modL]
      have e2 : (a * a) ^ (e / 2) = a ^ (2 * (e / 2)) := by rw [← Nat.pow_two, ← Nat.pow_mul]
      rw [e2]
      by_cases h1 : e % 2 = 1
      · rw [if_pos h1, Nat.mul_mod, Nat.mod_mod, ← Nat.mul_mod, ← Nat.pow_succ', show (2 * (e / 2)).succ = e by omega]
      · rw [if_neg h1, show 2 * (e / 2) = e by omega]
theorem pigeon : ∀ (n : Nat) (f : Nat → Nat), (∀ i, i < n → f i < n) → (∀ i j, i < n → j < n → f i = f j → i = j) → ∀ y, y < n → ∃ i, i < n ∧ f i = y
  | 0, _, _, _, y, hy => absurd hy (Nat.not_lt_zero _)
  | n + 1, f, h1, h2, y, hy => by
    have hm := h1 n (by omega)
    have g1 : ∀ i, i < n → (if f i = n then f n else f i) < n := fun i hi => by
      split
      · rename_i h
        have : f n ≠ n := fun e => by have := h2 i n (by omega) (by omega) (h.trans e.symm); omega
        omega
      · have := h1 i (by omega)
        omega
    have g2 : ∀ i j, i < n → j < n → (if f i = n then f n else f i) = (if f j = n then f n else f j) → i = j := fun i j hi hj h => by
      split at h <;> split at h
      · rename_i a b
        exact h2 i j (by omega) (by omega) (a.trans b.symm)
      · have := h2 n j (by omega) (by omega) h
        omega
      · have := h2 i n (by omega) (by omega) h
        omega
      · exact h2 i j (by omega) (by omega) h
    have ih := pigeon n _ g1 g2
    by_cases hyn : y < n
    · obtain ⟨i, hi, e⟩ := ih y hyn
      split at e
      · exact ⟨n, by omega, e⟩
      · exact ⟨i, by omega, e⟩
    · obtain rfl : y = n := by omega
      by_cases hf : f y = y
      · exact ⟨y, by omega, hf⟩
      · obtain ⟨i, hi, e⟩ := ih (f y) (by omega)
        split at e
        · rename_i h
          exact ⟨i, by omega, h⟩
        · have := h2 i y (by omega) (by omega) e
          omega
/-- A prime. -/
def Pr (p : Nat) : Prop := 1 < p ∧ ∀ d, d ∣ p → d = 1 ∨ d = p
theorem Pr.dvd_mul {q a b : Nat} (hq : Pr q) (h : q ∣ a * b) : q ∣ a ∨ q ∣ b := by
  rcases hq.2 (Nat.gcd q a) (Nat.gcd_dvd_left q a) with h1 | h1
  · exact .inr (Nat.Coprime.dvd_of_dvd_mul_left h1 h)
  · exact .inl (h1 ▸ Nat.gcd_dvd_right q a)
/-- The product of numbers. -/
def prodL : List Nat → Nat
  | [] => 1
  | q :: l => q * prodL l
theorem cover : ∀ (L : List Nat), (∀ q ∈ L, Pr q) → ∀ k, 1 < k → k ∣ prodL L → ∃ q ∈ L, q ∣ k
  | [], _, k, h1, h2 => by
    have := Nat.le_of_dvd (by decide) h2
    simp only [prodL] at this
    omega
  | q :: L, hL, k, h1, h2 => by
    have hq := hL q (List.mem_cons_self ..)
    rcases hq.2 (Nat.gcd q k) (Nat.gcd_dvd_left q k) with h3 | h3
    · have h4 : k ∣ prodL L := Nat.Coprime.dvd_of_dvd_mul_left (by rw [Nat.coprime_iff_gcd_eq_one, Nat.gcd_comm]; exact h3) h2
      obtain ⟨r, hr, hd⟩ := cover L (fun r hr => hL r (List.mem_cons_of_mem _ hr)) k h1 h4
      exact ⟨r, List.mem_cons_of_mem _ hr, hd⟩
    · exact ⟨q, List.mem_cons_self .., h3 ▸ Nat.gcd_dvd_right q k⟩
theorem pow_one_mod {g p : Nat} (h : g % p = 1 % p) (k : Nat) : g ^ k % p = 1 % p := by
  rw [Nat.pow_mod, h, ← Nat.pow_mod, Nat.one_pow]
theorem pow_of_dvd {g p d k : Nat} (h : g ^ d % p = 1 % p) (hd : d ∣ k) : g ^ k % p = 1 % p := by
  obtain ⟨c, rfl⟩ := hd
  rw [Nat.pow_mul]
  exact pow_one_mod h c
/-- A least number with a property. -/
theorem least {P : Nat → Prop} : ∀ n, P n → ∃ m, P m ∧ m ≤ n ∧ ∀ k, k < m → ¬ P k := by
  intro n
  induction n using Nat.strongRecOn with
  | _ n ih =>
    intro h
    by_cases hk : ∃ k, k < n ∧ P k
    · obtain ⟨k, hk, hp⟩ := hk
      obtain ⟨m, h1, h2, h3⟩ := ih k hk hp
      exact ⟨m, h1, by omega, h3⟩
    · exact ⟨n, h, Nat.le_refl _, fun k hkn hp => hk ⟨k, hkn, hp⟩⟩
theorem order_dvd {g p d n : Nat} (hd0 : 0 < d) (hd : g ^ d % p = 1 % p) (hl : ∀ k, k < d → ¬ (0 < k ∧ g ^ k % p = 1 % p)) (hn : g ^ n % p = 1 % p) : d ∣ n := by
  have h1 : g ^ n % p = g ^ (n % d) % p := by
    conv => lhs; rw [← Nat.div_add_mod n d, Nat.pow_add, Nat.mul_mod, pow_of_dvd hd (Nat.dvd_mul_right d (n / d)), ← Nat.mul_mod, Nat.one_mul]
  have h2 := hl (n % d) (Nat.mod_lt _ hd0)
  have h3 : n % d = 0 := by
    apply Classical.byContradiction
    intro h
    exact h2 ⟨by omega, h1 ▸ hn⟩
  exact Nat.dvd_of_mod_eq_zero h3
/-- What a root of p brings: every number that p does not divide has p - 1 as an exponent. -/
theorem root_all {p g : Nat} (hp : 1 < p) (h1 : g ^ (p - 1) % p = 1 % p) (ho : ∀ k, 0 < k → k < p - 1 → g ^ k % p ≠ 1 % p) : ∀ x, x % p ≠ 0 → x ^ (p - 1) % p = 1 % p := by
  have inv : ∀ i, i ≤ p - 1 → g ^ i * g ^ (p - 1 - i) % p = 1 % p := fun i hi => by
    rw [← Nat.pow_add, show i + (p - 1 - i) = p - 1 by omega]
    exact h1
  have nz : ∀ i, i ≤ p - 1 → g ^ i % p ≠ 0 := fun i hi h => by
    have := inv i hi
    rw [Nat.mul_mod, h, Nat.zero_mul, Nat.zero_mod, Nat.mod_eq_of_lt hp] at this
    omega
  have lt : ∀ i, g ^ i % p < p := fun i => Nat.mod_lt _ (by omega)
  have inj0 : ∀ i j, i ≤ j → j < p - 1 → g ^ i % p = g ^ j % p → i = j := fun i j hij hj h => by
    apply Classical.byContradiction
    intro hne
    apply ho (j - i) (by omega) (by omega)
    have e1 : g ^ j = g ^ i * g ^ (j - i) := by rw [← Nat.pow_add, show i + (j - i) = j by omega]
    have e2 : g ^ (p - 1 - i) * g ^ j % p = g ^ (p - 1 - i) * g ^ i % p := by rw [Nat.mul_mod, ← h, ← Nat.mul_mod]
    rw [Nat.mul_comm _ (g ^ i), inv i (by omega), e1, ← Nat.mul_assoc, Nat.mul_comm _ (g ^ i), Nat.mul_mod, inv i (by omega), ← Nat.mul_mod, Nat.one_mul] at e2
    exact e2
  intro x hx
  obtain ⟨i, hi, e⟩ := pigeon (p - 1) (fun i => g ^ i % p - 1) (fun i hi => by have := nz i (by omega); have := lt i; show g ^ i % p - 1 < p - 1; omega) (fun i j hi hj h => by
    have a1 := nz i (by omega)
    have a2 := nz j (by omega)
    have h' : g ^ i % p - 1 = g ^ j % p - 1 := h
    have h2 : g ^ i % p = g ^ j % p := by omega
    rcases Nat.le_total i j with hij | hij
    · exact inj0 i j hij hj h2
    · exact (inj0 j i hij hi h2.symm).symm) (x % p - 1) (by have := Nat.mod_lt x (show 0 < p by omega); omega)
  have a1 := nz i (by omega)
  have e' : g ^ i % p - 1 = x % p - 1 := e
  have e2 : x % p = g ^ i % p := by omega
  rw [Nat.pow_mod, e2, ← Nat.pow_mod, ← Nat.pow_mul, Nat.mul_comm, Nat.pow_mul]
  exact pow_one_mod h1 i
theorem root_prime {p : Nat} (hp : 1 < p) (h : ∀ x, x % p ≠ 0 → x ^ (p - 1) % p = 1 % p) : Pr p := by
  refine ⟨hp, fun d hd => ?_⟩
  apply Classical.byContradiction
  intro hn
  obtain ⟨h1, h2⟩ := not_or.1 hn
  have hle := Nat.le_of_dvd (by omega) hd
  have hd0 : d ≠ 0 := by
    intro e
    subst e
    have := Nat.eq_zero_of_zero_dvd hd
    omega
  have hlt : d < p := by omega
  have h3 := h d (by rw [Nat.mod_eq_of_lt hlt]; exact hd0)
  obtain ⟨c, hc⟩ := hd
  have hp2 : d ^ (p - 1) = d * d ^ (p - 2) := by
    rw [← Nat.pow_succ', show (p - 2).succ = p - 1 by omega]
  have h4 : d ^ (p - 1) * c % p = 0 := by
    rw [hp2, Nat.mul_right_comm, ← hc]
    exact Nat.mul_mod_right _ _
  rw [Nat.mul_mod, h3, ← Nat.mul_mod, Nat.one_mul] at h4
  have hc1 : c < p := by
    have : c ≠ 0 := by
      intro e
      rw [e] at hc
      omega
    have h5 : 2 * c ≤ d * c := Nat.mul_le_mul_right c (by omega)
    omega
  rw [Nat.mod_eq_of_lt hc1] at h4
  rw [h4] at hc
  omega
/-- Pratt's certificate: a root, and the primes of p - 1. -/
theorem pratt (p g f : Nat) (L : List Nat) (hp : 1 < p) (hL : ∀ q ∈ L, Pr q) (hprod : prodL L + 1 = p) (hf : p < 2 ^ f) (h1 : pmod p f g (p - 1) = 1) (hq : ∀ q ∈ L, pmod p f g ((p - 1) / q) ≠ 1) : Pr p ∧ ∀ x, x % p ≠ 0 → x ^ (p - 1) % p = 1 := by
  have o1 : 1 % p = 1 := Nat.mod_eq_of_lt hp
  rw [pmod_eq p f g (p - 1) (by omega)] at h1
  have hp1 : 0 < p - 1 := by omega
  obtain ⟨d, ⟨hd0, hd⟩, _, hl⟩ := least (P := fun k => 0 < k ∧ g ^ k % p = 1 % p) (p - 1) ⟨hp1, h1.trans o1.symm⟩
  have hdv := order_dvd hd0 hd hl (h1.trans o1.symm)
  have hdp : d = p - 1 := by
    apply Classical.byContradiction
    intro hne
    obtain ⟨k, hk⟩ := hdv
    have hk1 : 1 < k := by
      rcases k with _ | _ | k
      · omega
      · omega
      · omega
    obtain ⟨q, hqL, c, hc⟩ := cover L hL k hk1 (by rw [show prodL L = p - 1 by omega, hk]; exact Nat.dvd_mul_left k d)
    have hqp := (hL q hqL).1
    have hx := hq q hqL
    have e1 : (p - 1) / q = d * c := by
      rw [hk, hc, Nat.mul_left_comm]
      exact Nat.mul_div_cancel_left _ (by omega)
    rw [pmod_eq p f g ((p - 1) / q) (by have := Nat.div_le_self (p - 1) q; omega), e1] at hx
    exact hx ((pow_of_dvd hd (Nat.dvd_mul_right d c)).trans o1)
  have hall := root_all hp (h1.trans o1.symm) (fun k h0 hk h => hl k (by omega) ⟨h0, h⟩)
  exact ⟨root_prime hp hall, fun x hx => (hall x hx).trans o1⟩
theorem rsa_one {p e d l x : Nat} (hp : 1 < p) (hall : ∀ x, x % p ≠ 0 → x ^ (p - 1) % p = 1) (hl : p - 1 ∣ l) (h : d * e % l = 1) : x ^ (d * e) % p = x % p := by
  obtain ⟨c, hc⟩ := hl
  have h1 : d * e = 1 + (p - 1) * (c * (d * e / l)) := by
    have := Nat.div_add_mod (d * e) l
    rw [h] at this
    rw [← Nat.mul_assoc, ← hc]
    omega
  by_cases hx : x % p = 0
  · rw [hx, h1, Nat.pow_add, Nat.pow_one, Nat.mul_mod, hx, Nat.zero_mul, Nat.zero_mod]
  · have h2 : (x ^ (p - 1)) ^ (c * (d * e / l)) % p = 1 % p := pow_one_mod ((hall x hx).trans (Nat.mod_eq_of_lt hp).symm) _
    rw [h1, Nat.pow_add, Nat.pow_one, Nat.pow_mul, Nat.mul_mod, h2, ← Nat.mul_mod, Nat.mul_one]
theorem crt_le {p q a b : Nat} (hpq : Nat.Coprime p q) (h1 : a % p = b % p) (h2 : a % q = b % q) (ha : a < p * q) : a ≤ b := by
  apply Classical.byContradiction
  intro hn
  have d1 : p ∣ a - b := Nat.dvd_of_mod_eq_zero (Nat.sub_mod_eq_zero_of_mod_eq h1)
  have d2 : q ∣ a - b := Nat.dvd_of_mod_eq_zero (Nat.sub_mod_eq_zero_of_mod_eq h2)
  have d3 := Nat.le_of_dvd (by omega) (Nat.Coprime.mul_dvd_of_dvd_of_dvd hpq d1 d2)
  omega
theorem coprime_pr {p q : Nat} (hp : Pr p) (hq : Pr q) (h : p ≠ q) : Nat.Coprime p q := by
  rw [Nat.coprime_iff_gcd_eq_one]
  rcases hp.2 _ (Nat.gcd_dvd_left p q) with h1 | h1
  · exact h1
  · rcases hq.2 _ (Nat.gcd_dvd_right p q) with h2 | h2
    · exact h2
    · exact absurd (h1.symm.trans h2) h
/-- A power by d, and by e, of a number below the product of two primes. -/
theorem rsa_back {p q e d l : Nat} (hp : Pr p ∧ ∀ x, x % p ≠ 0 → x ^ (p - 1) % p = 1) (hq : Pr q ∧ ∀ x, x % q ≠ 0 → x ^ (q - 1) % q = 1) (hne : p ≠ q) (lp : p - 1 ∣ l) (lq : q - 1 ∣ l) (h : d * e % l = 1) (x : Nat) (hx : x < p * q) : (x ^ d % (p * q)) ^ e % (p * q) = x := by
  have hpq0 : 0 < p * q := by omega
  rw [pow_modL, ← Nat.pow_mul]
  have hc := coprime_pr hp.1 hq.1 hne
  have e1 : x ^ (d * e) % (p * q) % p = x % p := by
    rw [Nat.mod_mod_of_dvd _ (Nat.dvd_mul_right p q)]
    exact rsa_one hp.1.1 hp.2 lp h
  have e2 : x ^ (d * e) % (p * q) % q = x % q := by
    rw [Nat.mod_mod_of_dvd _ (Nat.dvd_mul_left q p)]
    exact rsa_one hq.1.1 hq.2 lq h
  have hlt := Nat.mod_lt (x ^ (d * e)) hpq0
  exact Nat.le_antisymm (crt_le hc e1 e2 hlt) (crt_le hc e1.symm e2.symm hx)
/-- Unlike numbers have unlike powers. -/
theorem rsa_apart {p q e d l : Nat} (hp : Pr p ∧ ∀ x, x % p ≠ 0 → x ^ (p - 1) % p = 1) (hq : Pr q ∧ ∀ x, x % q ≠ 0 → x ^ (q - 1) % q = 1) (hne : p ≠ q) (lp : p - 1 ∣ l) (lq : q - 1 ∣ l) (h : e * d % l = 1) {x y : Nat} (hx : x < p * q) (hy : y < p * q) (he : x ^ e % (p * q) = y ^ e % (p * q)) : x = y := by
  rw [← rsa_back hp hq hne lp lq h x hx, he, rsa_back hp hq hne lp lq h y hy]
theorem allq {α : Type} {P : α → Prop} {q : α} {qs : List α} (h : P q) (t : ∀ x ∈ qs, P x) : ∀ x ∈ q :: qs, P x := List.forall_mem_cons.2 ⟨h, t⟩
theorem allq0 {α : Type} {P : α → Prop} : ∀ x ∈ ([] : List α), P x := fun _ h => by cases h
theorem pr_2 : Pr 2 := ⟨by decide, fun d hd => by have := Nat.le_of_dvd (by decide) hd; match d, this with
  | 0, _ => exact absurd (Nat.eq_zero_of_zero_dvd hd) (by decide)
  | 1, _ => exact .inl rfl
  | 2, _ => exact .inr rfl⟩
theorem pr_3 : Pr 3 := ⟨by decide, fun d hd => by have := Nat.le_of_dvd (by decide) hd; match d, this with
  | 0, _ => exact absurd (Nat.eq_zero_of_zero_dvd hd) (by decide)
  | 1, _ => exact .inl rfl
  | 2, _ => exact absurd (Nat.mod_eq_zero_of_dvd hd) (by decide)
  | 3, _ => exact .inr rfl⟩
end Go.Proofs.YtpcmpeeflnlkpaaDoor
