/-
  Words and bytes as numbers: plain facts.
-/
import Derived.Test.YtpcmpeeflnlkpaaDoorUTwoEtc
namespace Go.Proofs.YtpcmpeeflnlkpaaDoor
open Go.RowKit Ch
set_option maxRecDepth 100000

/-- All are words. -/
def AllW (L : List Nat) : Prop := ∀ x ∈ L, x < 18446744073709551616
theorem AllW.at {L : List Nat} (h : AllW L) {i n : Nat} (hn : L[i]? = some n) : n < 18446744073709551616 := h n (List.mem_of_getElem? hn)
theorem AllW.set {L : List Nat} (h : AllW L) (i : Nat) {n : Nat} (hn : n < 18446744073709551616) : AllW (L.set i n) := by
  intro x hx
  rcases List.mem_or_eq_of_mem_set hx with hx | rfl
  · exact h x hx
  · exact hn
theorem AllW.take {L : List Nat} (h : AllW L) (i : Nat) : AllW (L.take i) := fun x hx => h x (List.mem_of_mem_take hx)
theorem AllW.drop {L : List Nat} (h : AllW L) (i : Nat) : AllW (L.drop i) := fun x hx => h x (List.mem_of_mem_drop hx)
theorem allW_zero (n : Nat) : AllW (List.replicate n 0) := fun x hx => by rw [List.eq_of_mem_replicate hx]; decide
theorem numW_zero : ∀ n, numW (List.replicate n 0) = 0
  | 0 => rfl
  | n + 1 => by rw [List.replicate_succ, numW, numW_zero n]
theorem numW_lt : ∀ {L : List Nat}, AllW L → numW L < 18446744073709551616 ^ L.length
  | [], _ => by simp [numW]
  | x :: L, h => by
    have h1 := numW_lt (L := L) (fun y hy => h y (List.mem_cons_of_mem _ hy))
    have h2 := h x (by simp)
    rw [numW, List.length_cons, Nat.pow_succ]
    have h3 : 18446744073709551616 * (numW L + 1) ≤ 18446744073709551616 * 18446744073709551616 ^ L.length := Nat.mul_le_mul_left _ h1
    rw [Nat.mul_comm (18446744073709551616 ^ L.length)]
    omega
/-- A piece of words, as a number. -/
def pv (L : List Nat) (o n : Nat) : Nat := numW ((L.drop o).take n)
theorem pv_zero (L : List Nat) (o : Nat) : pv L o 0 = 0 := by simp [pv, numW]
theorem pv_at (L : List Nat) (o n k : Nat) : ((L.drop o).take n)[k]? = if k < n then L[o + k]? else none := by
  rw [List.getElem?_take]
  split
  · rw [List.getElem?_drop]
  · rfl
theorem numW_snoc (l : List Nat) (x : Nat) : numW (l ++ [x]) = numW l + 18446744073709551616 ^ l.length * x := by
  rw [numW_append]
  simp [numW]
theorem pv_succ {L : List Nat} {o n x : Nat} (h : L[o + n]? = some x) : pv L o (n + 1) = pv L o n + 18446744073709551616 ^ n * x := by
  have hl := (List.getElem?_eq_some_iff.1 h).1
  have e : (L.drop o).take (n + 1) = (L.drop o).take n ++ [x] := by
    rw [List.take_add_one, List.getElem?_drop, h]
    rfl
  unfold pv
  rw [e, numW_snoc]
  congr 2
  rw [List.length_take, List.length_drop]
  congr 1
  omega
theorem pv_congr {L L' : List Nat} {o n : Nat} (h : ∀ k, o ≤ k → k < o + n → L'[k]? = L[k]?) : pv L' o n = pv L o n := by
  unfold pv
  congr 1
  apply List.ext_getElem?
  intro k
  rw [pv_at, pv_at]
  split
  · exact h _ (by omega) (by omega)
  · rfl
theorem pv_set {L : List Nat} {o n i x : Nat} (h : i < o ∨ o + n ≤ i) : pv (L.set i x) o n = pv L o n :=
  pv_congr fun k h1 h2 => List.getElem?_set_ne (by omega)
theorem pv_all (L : List Nat) : pv L 0 L.length = numW L := by simp [pv]
theorem pv_full {L : List Nat} {n : Nat} (h : L.length = n) : pv L 0 n = numW L := by rw [← h]; exact pv_all L
theorem pv_lt {L : List Nat} (h : AllW L) (o n : Nat) : pv L o n < 18446744073709551616 ^ n := by
  have h1 := numW_lt ((h.drop o).take n)
  have h2 : 18446744073709551616 ^ ((L.drop o).take n).length ≤ 18446744073709551616 ^ n := Nat.pow_le_pow_right (by decide) (List.length_take_le _ _)
  exact Nat.lt_of_lt_of_le h1 h2
theorem pv_append (L : List Nat) (o m n : Nat) (h : o + m ≤ L.length) : pv L o (m + n) = pv L o m + 18446744073709551616 ^ m * pv L (o + m) n := by
  have e : (L.drop o).take (m + n) = (L.drop o).take m ++ (L.drop (o + m)).take n := by
    rw [List.take_add, List.drop_drop]
  unfold pv
  rw [e, numW_append]
  congr 2
  rw [List.length_take, List.length_drop]
  congr 1
  omega
theorem numW_take {V : List Nat} {i x : Nat} (h : V[i]? = some x) : numW (V.take (i + 1)) = numW (V.take i) + 18446744073709551616 ^ i * x := by
  have := pv_succ (L := V) (o := 0) (n := i) (x := x) (by rw [Nat.zero_add]; exact h)
  simpa [pv] using this
theorem numW_set {L : List Nat} {i x y : Nat} (h : L[i]? = some x) : numW (L.set i y) + 18446744073709551616 ^ i * x = numW L + 18446744073709551616 ^ i * y := by
  induction L generalizing i with
  | nil => cases h
  | cons z L ih =>
    cases i with
    | zero =>
      simp only [List.getElem?_cons_zero, Option.some.injEq] at h
      subst h
      simp [numW]
      omega
    | succ i =>
      simp only [List.getElem?_cons_succ] at h
      have := ih h
      rw [List.set_cons_succ, numW, numW, Nat.pow_succ, Nat.mul_comm (18446744073709551616 ^ i), Nat.mul_assoc, Nat.mul_assoc]
      omega
/-- Without a nought at the end. -/
def Tidy (L : List Nat) : Prop := trimL L = L
theorem tidy_last {L : List Nat} (h : Tidy L) {x : Nat} {l : List Nat} (e : L = l ++ [x]) : x ≠ 0 := by
  intro hx
  subst hx
  unfold Tidy at h
  rw [e, trimL_zero] at h
  have h1 : (trimL l).length ≤ l.length := by
    unfold trimL
    rw [List.length_reverse]
    exact Nat.le_trans (List.dropWhile_sublist _).length_le (by simp)
  have := congrArg List.length h
  simp at this
  omega
theorem dropWhile_again {α : Type} (p : α → Bool) (l : List α) : (l.dropWhile p).dropWhile p = l.dropWhile p := by
  induction l with
  | nil => rfl
  | cons x l ih =>
    rw [List.dropWhile_cons]
    split
    · exact ih
    · rename_i h
      rw [List.dropWhile_cons, if_neg h]
theorem tidy_trim (L : List Nat) : Tidy (trimL L) := by
  unfold Tidy trimL
  rw [List.reverse_reverse, dropWhile_again]
/-- A tidy number is at least as great as its last place. -/
theorem tidy_ge {L : List Nat} (h : Tidy L) (h0 : L ≠ []) : 18446744073709551616 ^ (L.length - 1) ≤ numW L := by
  obtain ⟨l, x, e⟩ : ∃ l x, L = l ++ [x] := by
    rcases List.eq_nil_or_concat L with h1 | ⟨l, x, h1⟩
    · exact absurd h1 h0
    · exact ⟨l, x, by rw [h1, List.concat_eq_append]⟩
  have hx := tidy_last h e
  rw [e, numW_snoc, List.length_append]
  have h1 : l.length + [x].length - 1 = l.length := by simp
  rw [h1]
  have : 18446744073709551616 ^ l.length * 1 ≤ 18446744073709551616 ^ l.length * x := Nat.mul_le_mul_left _ (by omega)
  omega
theorem tidy_len {A C : List Nat} (hA : Tidy A) (hC : AllW C) (h : numW A ≤ numW C) : A.length ≤ C.length := by
  apply Classical.byContradiction
  intro hn
  have h0 : A ≠ [] := by intro e; subst e; simp at hn
  have h1 := tidy_ge hA h0
  have h2 := numW_lt hC
  have h3 : 18446744073709551616 ^ C.length ≤ 18446744073709551616 ^ (A.length - 1) := Nat.pow_le_pow_right (by decide) (by omega)
  omega
theorem tidy_nil {L : List Nat} (h : Tidy L) : numW L = 0 ↔ L = [] := by
  constructor
  · intro h0
    apply Classical.byContradiction
    intro hn
    have := tidy_ge h hn
    have : 0 < 18446744073709551616 ^ (L.length - 1) := Nat.pow_pos (by decide)
    omega
  · intro h0; subst h0; rfl
theorem AllW.trim {L : List Nat} (h : AllW L) : AllW (trimL L) := by
  intro x hx
  unfold trimL at hx
  rw [List.mem_reverse] at hx
  exact h x (List.mem_reverse.1 ((List.dropWhile_sublist _).subset hx))
/-- How many times the divisor may be taken, as the first words say: never too few. V = V2 p + lo, U = U3 p + lo'. -/
theorem guess_low {U3 V2 p lo lo' q t : Nat} (hlo : lo' < p) (hq : q * (V2 * p + lo) ≤ U3 * p + lo') (ht : U3 < t * V2) : q < t := by
  apply Classical.byContradiction
  intro hn
  have h1 : t * V2 ≤ q * V2 := Nat.mul_le_mul_right _ (by omega)
  have h2 : q * (V2 * p) ≤ q * (V2 * p + lo) := Nat.mul_le_mul_left _ (by omega)
  have h3 : (U3 + 1) * p ≤ q * V2 * p := Nat.mul_le_mul_right _ (by omega)
  rw [Nat.mul_assoc] at h3
  rw [Nat.add_mul, Nat.one_mul] at h3
  omega
/-- And, once the first words agree, at most one too many. -/
theorem guess_high {U3 V2 p lo lo' t D U : Nat} (hU : U = U3 * p + lo') (hD : D = V2 * p + lo) (hlo : lo < p) (h : t * V2 ≤ U3) (ht : t * p ≤ D) (hD0 : 0 < D) : t ≤ U / D + 1 := by
  have h1 : t * V2 * p ≤ U3 * p := Nat.mul_le_mul_right _ h
  have h2 : t * lo ≤ t * p := Nat.mul_le_mul_left _ (by omega)
  have h3 : t * D = t * V2 * p + t * lo := by rw [hD, Nat.mul_add, Nat.mul_assoc]
  have h4 : t * D ≤ U + D := by omega
  have h5 : (t - 1) * D ≤ U := by
    rw [Nat.sub_mul, Nat.one_mul]
    omega
  have := (Nat.le_div_iff_mul_le hD0).2 h5
  omega
/-- Taking a guess that is the digit, or one more. -/
theorem take_guess {U D t X P c : Nat} (hD0 : 0 < D) (hDX : D ≤ X) (hUX : U < X) (ht1 : U / D ≤ t) (ht2 : t ≤ U / D + 1) (hP : P < X) (he : P + t * D = U + c * X) :
    (c = 0 → t = U / D ∧ P = U % D) ∧ (c ≠ 0 → t = U / D + 1 ∧ ∀ P' c', P' < X → P' + c' * X = P + D → P' = U % D) := by
  have hdm := Nat.div_add_mod U D
  have hml := Nat.mod_lt U hD0
  rw [Nat.mul_comm] at hdm
  have hc : t = U / D ∨ t = U / D + 1 := by omega
  rcases hc with rfl | rfl
  · have hc0 : c = 0 := by
      apply Classical.byContradiction
      intro hn
      have : 1 * X ≤ c * X := Nat.mul_le_mul_right _ (by omega)
      omega
    subst hc0
    exact ⟨fun _ => ⟨rfl, by omega⟩, fun h => absurd rfl h⟩
  · rw [Nat.add_mul, Nat.one_mul] at he
    refine ⟨fun h => ?_, fun _ => ⟨rfl, fun P' c' hP' he' => ?_⟩⟩
    · subst h
      omega
    · have hc1 : c = 1 := by
        apply Classical.byContradiction
        intro hn
        have h0 : c = 0 ∨ 2 ≤ c := by omega
        rcases h0 with rfl | h2
        · omega
        · have : 2 * X ≤ c * X := Nat.mul_le_mul_right _ h2
          omega
      subst hc1
      have hc' : c' = 1 := by
        apply Classical.byContradiction
        intro hn
        have h0 : c' = 0 ∨ 2 ≤ c' := by omega
        rcases h0 with rfl | h2
        · omega
        · have : 2 * X ≤ c' * X := Nat.mul_le_mul_right _ h2
          omega
      subst hc'
      omega
/-- A half digit of a quotient: the guess is never too small. b = 2^32. -/
theorem half_start {y y1 y0 U u : Nat} (hy : y = y1 * 4294967296 + y0) (hy1 : 0 < y1) (hu : u < 4294967296) : (U * 4294967296 + u) / y ≤ U / y1 := by
  have hy0 : 0 < y := by omega
  rw [Nat.le_div_iff_mul_le hy1]
  have h1 : (U * 4294967296 + u) / y * y ≤ U * 4294967296 + u := Nat.div_mul_le_self _ _
  generalize (U * 4294967296 + u) / y = q at *
  have h2 : q * y = q * y1 * 4294967296 + q * y0 := by rw [hy, Nat.mul_add, Nat.mul_assoc]
  have h3 : q * y1 * 4294967296 ≤ U * 4294967296 + u := by omega
  generalize q * y1 = z at *
  omega
theorem half_bound {y y1 y0 U : Nat} (hy : y = y1 * 4294967296 + y0) (hy1 : 2147483648 ≤ y1) (hy0 : y0 < 4294967296) (hU : U < y) : U / y1 ≤ 4294967297 := by
  apply Nat.le_of_lt_succ
  rw [Nat.div_lt_iff_lt_mul (by omega)]
  have : 4294967298 * y1 = y1 * 4294967296 + 2 * y1 := by omega
  omega
/-- While it is too great, it is told so. -/
theorem half_more {y y1 y0 U u q r : Nat} (hy : y = y1 * 4294967296 + y0) (hq : q * y1 + r = U) (h : r * 4294967296 + u < q * y0) : (U * 4294967296 + u) / y < q := by
  have hq0 : 0 < q := by
    apply Nat.pos_of_ne_zero
    intro h0
    subst h0
    omega
  have hyp : 0 < y := by
    apply Nat.pos_of_ne_zero
    intro h0
    have : y0 = 0 := by omega
    subst this
    omega
  rw [Nat.div_lt_iff_lt_mul hyp]
  have h2 : q * y = q * y1 * 4294967296 + q * y0 := by rw [hy, Nat.mul_add, Nat.mul_assoc]
  rw [h2]
  rw [← hq, Nat.add_mul, Nat.add_assoc]
  exact Nat.add_lt_add_left h _
theorem half_wide {y y1 y0 U u q : Nat} (hU : U < y) (hu : u < 4294967296) (hq : 4294967296 ≤ q) (_ : y = y1 * 4294967296 + y0) : (U * 4294967296 + u) / y < q := by
  refine Nat.lt_of_lt_of_le ?_ hq
  rw [Nat.div_lt_iff_lt_mul (by omega)]
  omega
/-- Once it isn't told so, it is the half digit. -/
theorem half_done {y y1 y0 U u q r : Nat} (hy : y = y1 * 4294967296 + y0) (hy0 : 0 < y) (hq : q * y1 + r = U) (h : q * y0 ≤ r * 4294967296 + u) (hl : (U * 4294967296 + u) / y ≤ q) : q = (U * 4294967296 + u) / y := by
  apply Nat.le_antisymm ?_ hl
  rw [Nat.le_div_iff_mul_le hy0]
  have h2 : q * y = q * y1 * 4294967296 + q * y0 := by rw [hy, Nat.mul_add, Nat.mul_assoc]
  generalize q * y1 = z at *
  omega
theorem half_out {y0 q r : Nat} (hy0 : y0 < 4294967296) (hq : q ≤ 4294967296) (hr : 4294967296 ≤ r) (u : Nat) : q * y0 ≤ r * 4294967296 + u := by
  have h1 : q * y0 ≤ 4294967296 * 4294967295 := Nat.mul_le_mul hq (by omega)
  omega
/-- What is left, reckoned with wraps. -/
theorem half_left {y U u q : Nat} (hy : 0 < y) (hyl : y < 18446744073709551616) (hq : q = (U * 4294967296 + u) / y) : ((U * 4294967296 + u) % 18446744073709551616 + 18446744073709551616 - q * y % 18446744073709551616) % 18446744073709551616 = (U * 4294967296 + u) % y := by
  have h1 := Nat.div_add_mod (U * 4294967296 + u) y
  have h2 := Nat.mod_lt (U * 4294967296 + u) hy
  rw [Nat.mul_comm, ← hq] at h1
  generalize q * y = z at *
  generalize (U * 4294967296 + u) % y = m at *
  omega
theorem two_halves {y U u1 u0 q1 q0 m : Nat} (hy : 0 < y) (hq1 : q1 = (U * 4294967296 + u1) / y) (hm : m = (U * 4294967296 + u1) % y) (hq0 : q0 = (m * 4294967296 + u0) / y) :
    q1 * 4294967296 + q0 = (U * 18446744073709551616 + (u1 * 4294967296 + u0)) / y ∧ (m * 4294967296 + u0) % y = (U * 18446744073709551616 + (u1 * 4294967296 + u0)) % y := by
  have e1 := Nat.div_add_mod (U * 4294967296 + u1) y
  have e2 := Nat.div_add_mod (m * 4294967296 + u0) y
  rw [← hq1, ← hm] at e1
  rw [← hq0] at e2
  have hr := Nat.mod_lt (m * 4294967296 + u0) hy
  obtain ⟨r, hre⟩ : ∃ r, (m * 4294967296 + u0) % y = r := ⟨_, rfl⟩
  rw [hre] at e2 hr ⊢
  clear hre hq1 hm hq0
  have hN : U * 18446744073709551616 + (u1 * 4294967296 + u0) = (q1 * 4294967296 + q0) * y + r := by
    have h3 : (q1 * 4294967296 + q0) * y = y * q1 * 4294967296 + y * q0 := by
      rw [Nat.add_mul, Nat.mul_comm (q1 * 4294967296) y, ← Nat.mul_assoc, Nat.mul_comm q0 y]
    rw [h3]
    clear h3 hr hy
    generalize y * q1 = z1 at *
    generalize y * q0 = z0 at *
    omega
  rw [hN]
  rw [Nat.mul_comm (q1 * 4294967296 + q0) y, Nat.mul_add_div hy, Nat.div_eq_of_lt hr, Nat.mul_add_mod, Nat.mod_eq_of_lt hr]
  exact ⟨(Nat.add_zero _).symm, rfl⟩
theorem div_scaled {hi lo y s : Nat} (hs : 0 < s) (_ : 0 < y) : (hi * 18446744073709551616 + lo) * s / (y * s) = (hi * 18446744073709551616 + lo) / y ∧ (hi * 18446744073709551616 + lo) * s % (y * s) / s = (hi * 18446744073709551616 + lo) % y := by
  rw [Nat.mul_div_mul_right _ _ hs, Nat.mul_mod_mul_right, Nat.mul_div_cancel _ hs]
  exact ⟨rfl, rfl⟩
/-- Bytes as a number, the greatest first. -/
def numB (l : List UInt8) : Nat := l.foldl (fun n c => n * 256 + c.toNat) 0
theorem numB_snoc (l : List UInt8) (c : UInt8) : numB (l ++ [c]) = numB l * 256 + c.toNat := by simp [numB]
theorem numB_from : ∀ (l : List UInt8) (n : Nat), l.foldl (fun n c => n * 256 + c.toNat) n = n * 256 ^ l.length + l.foldl (fun n c => n * 256 + c.toNat) 0 := by
  intro l
  induction l with
  | nil => intro n; simp
  | cons d l ih =>
    intro n
    rw [List.foldl_cons, ih, List.foldl_cons, ih (0 * 256 + d.toNat), List.length_cons, Nat.pow_succ, Nat.mul_comm (256 ^ l.length) 256, Nat.add_mul, ← Nat.mul_assoc, Nat.zero_mul, Nat.zero_add, Nat.add_assoc]
theorem numB_cons (c : UInt8) (l : List UInt8) : numB (c :: l) = c.toNat * 256 ^ l.length + numB l := by
  unfold numB
  rw [List.foldl_cons, numB_from]
  simp
theorem numB_lt (l : List UInt8) : numB l < 256 ^ l.length := by
  induction l with
  | nil => simp [numB]
  | cons c l ih =>
    rw [numB_cons, List.length_cons, Nat.pow_succ]
    have h1 := c.toNat_lt
    have h2 : (c.toNat + 1) * 256 ^ l.length ≤ 256 * 256 ^ l.length := Nat.mul_le_mul_right _ (by omega)
    rw [Nat.add_mul, Nat.one_mul] at h2
    rw [Nat.mul_comm (256 ^ l.length)]
    omega
theorem numB_bare (l : List UInt8) : numB (bareL l) = numB l := by
  induction l with
  | nil => rfl
  | cons c l ih =>
    by_cases h : c = 0
    · subst h
      rw [bareL_zero, ih, numB_cons]
      simp
    · rw [bareL_stop h]
theorem numB_ge {l : List UInt8} (h : bareL l = l) (h0 : l ≠ []) : 256 ^ (l.length - 1) ≤ numB l := by
  cases l with
  | nil => exact absurd rfl h0
  | cons c l =>
    have hc : c ≠ 0 := by
      intro e
      subst e
      rw [bareL_zero] at h
      have h1 : (bareL l).length ≤ l.length := (List.dropWhile_sublist _).length_le
      have := congrArg List.length h
      simp at this
      omega
    have hc2 : 1 ≤ c.toNat := by
      apply Nat.pos_of_ne_zero
      intro e
      exact hc (UInt8.toNat.inj e)
    rw [numB_cons]
    have : 1 * 256 ^ l.length ≤ c.toNat * 256 ^ l.length := Nat.mul_le_mul_right _ hc2
    simp
    omega
theorem numB_inj_len : ∀ (n : Nat) (l m : List UInt8), l.length = n → m.length = n → numB l = numB m → l = m := by
  intro n
  induction n with
  | zero =>
    intro l m h1 h2 _
    rw [List.eq_nil_of_length_eq_zero h1, List.eq_nil_of_length_eq_zero h2]
  | succ n ih =>
    intro l m h1 h2 h3
    rcases List.eq_nil_or_concat l with rfl | ⟨l', c, rfl⟩
    · simp at h1
    rcases List.eq_nil_or_concat m with rfl | ⟨m', d, rfl⟩
    · simp at h2
    rw [List.concat_eq_append] at h1 h3 ⊢
    rw [List.concat_eq_append] at h2 h3 ⊢
    rw [numB_snoc, numB_snoc] at h3
    have hc := c.toNat_lt
    have hd := d.toNat_lt
    have e1 : numB l' = numB m' := by omega
    have e2 : c.toNat = d.toNat := by omega
    rw [ih l' m' (by simpa using h1) (by simpa using h2) e1, UInt8.toNat.inj e2]
theorem numB_inj {l m : List UInt8} (hl : bareL l = l) (hm : bareL m = m) (h : numB l = numB m) : l = m := by
  have key : ∀ a b : List UInt8, bareL a = a → numB a = numB b → a.length ≤ b.length := by
    intro a b ha he
    apply Classical.byContradiction
    intro hn
    have h0 : a ≠ [] := by intro e; subst e; simp at hn
    have h1 := numB_ge ha h0
    have h2 := numB_lt b
    have h3 : 256 ^ b.length ≤ 256 ^ (a.length - 1) := Nat.pow_le_pow_right (by decide) (by omega)
    omega
  have h1 := key l m hl h
  have h2 := key m l hm h.symm
  exact numB_inj_len _ l m rfl (by omega) h
theorem pow_word (k r : Nat) : 256 ^ (8 * k + r) = 18446744073709551616 ^ k * 256 ^ r := by
  rw [Nat.pow_add, Nat.pow_mul]
theorem pow_small {r : Nat} (hr : r < 8) : r = 0 ∨ r = 1 ∨ r = 2 ∨ r = 3 ∨ r = 4 ∨ r = 5 ∨ r = 6 ∨ r = 7 := by omega
theorem word_split {L : List Nat} {k x : Nat} (h : L[k]? = some x) : numW L = pv L 0 k + 18446744073709551616 ^ k * (x + 18446744073709551616 * numW (L.drop (k + 1))) := by
  have hl := (List.getElem?_eq_some_iff.1 h)
  have hl1 := hl.1
  have e : L = L.take k ++ x :: L.drop (k + 1) := by
    rw [← hl.2, ← List.drop_eq_getElem_cons hl.1, List.take_append_drop]
  have h1 : numW L = numW (L.take k ++ x :: L.drop (k + 1)) := by rw [← e]
  rw [h1, numW_append, numW]
  have h2 : (L.take k).length = k := by rw [List.length_take]; omega
  rw [h2]
  simp [pv]
/-- One byte more, the greatest first, put where it belongs. -/
theorem from_step {L : List Nat} {N p k r x c : Nat} (hA : AllW L) (hN : numW L = N * 256 ^ (p + 1)) (hp : p = 8 * k + r) (hr : r < 8) (hx : L[k]? = some x) (hc : c < 256) :
    x % 256 ^ (r + 1) = 0 ∧ x + c * 256 ^ r < 18446744073709551616 ∧ numW (L.set k (x + c * 256 ^ r)) = (N * 256 + c) * 256 ^ p := by
  have hs := word_split hx
  have hpv := pv_lt hA 0 k
  have hpp : 256 ^ (p + 1) = 18446744073709551616 ^ k * 256 ^ (r + 1) := by rw [hp, Nat.add_assoc, pow_word]
  rw [hN, hpp] at hs
  have h0 : pv L 0 k = 0 := by
    have h1 : N * (18446744073709551616 ^ k * 256 ^ (r + 1)) = 18446744073709551616 ^ k * (N * 256 ^ (r + 1)) := by rw [Nat.mul_left_comm]
    rw [h1] at hs
    generalize 18446744073709551616 ^ k = Bk at *
    generalize N * 256 ^ (r + 1) = A at *
    generalize x + 18446744073709551616 * numW (L.drop (k + 1)) = C at *
    have h2 : (Bk * A) % Bk = pv L 0 k := by rw [hs, Nat.add_mul_mod_self_left, Nat.mod_eq_of_lt hpv]
    rw [Nat.mul_mod_right] at h2
    exact h2.symm
  rw [h0, Nat.zero_add, Nat.mul_left_comm] at hs
  have hBk : 0 < 18446744073709551616 ^ k := Nat.pow_pos (by decide)
  have hs2 := Nat.eq_of_mul_eq_mul_left hBk hs
  have hxB := hA.at hx
  have key : x % 256 ^ (r + 1) = 0 ∧ x + c * 256 ^ r < 18446744073709551616 := by
    generalize numW (L.drop (k + 1)) = H at *
    clear hs h0 hpp hpv hN
    rcases pow_small hr with rfl | rfl | rfl | rfl | rfl | rfl | rfl | rfl <;> simp only [Nat.reduceAdd, Nat.reducePow] at hs2 ⊢ <;> omega
  refine ⟨key.1, key.2, ?_⟩
  have h3 := numW_set (y := x + c * 256 ^ r) hx
  rw [Nat.mul_add, hN, hpp] at h3
  have h4 : (N * 256 + c) * 256 ^ p = N * (18446744073709551616 ^ k * 256 ^ (r + 1)) + 18446744073709551616 ^ k * (c * 256 ^ r) := by
    rw [hp, pow_word, Nat.add_mul, Nat.pow_succ]
    congr 1
    · rw [Nat.mul_assoc, Nat.mul_left_comm 256, Nat.mul_comm 256]
    · rw [Nat.mul_left_comm]
  rw [h4]
  omega
theorem to_digit {L : List Nat} {p k r x : Nat} (hA : AllW L) (hp : p = 8 * k + r) (hr : r < 8) (hx : L[k]? = some x) : numW L / 256 ^ p % 256 = x / 256 ^ r % 256 := by
  have hs := word_split hx
  have hpv := pv_lt hA 0 k
  rw [hp, pow_word, ← Nat.div_div_eq_div_mul, hs, Nat.add_mul_div_left _ _ (Nat.pow_pos (by decide)), Nat.div_eq_of_lt hpv, Nat.zero_add]
  generalize numW (L.drop (k + 1)) = H
  rcases pow_small hr with rfl | rfl | rfl | rfl | rfl | rfl | rfl | rfl <;> simp only [Nat.reducePow] <;> omega
/-- The n bytes of a number. -/
def dB (N n : Nat) : List UInt8 := (List.range n).map fun i => UInt8.ofNat (N / 256 ^ (n - 1 - i) % 256)
theorem dB_length (N n : Nat) : (dB N n).length = n := by simp [dB]
theorem numB_dB (N : Nat) : ∀ n, numB (dB N n) = N % 256 ^ n := by
  intro n
  induction n generalizing N with
  | zero => simp [dB, numB, Nat.mod_one]
  | succ n ih =>
    have e : dB N (n + 1) = dB (N / 256) n ++ [UInt8.ofNat (N % 256)] := by
      unfold dB
      rw [List.range_succ, List.map_append]
      congr 1
      · apply List.map_congr_left
        intro i hi
        rw [List.mem_range] at hi
        rw [Nat.div_div_eq_div_mul, ← Nat.pow_succ', show (n - 1 - i).succ = n + 1 - 1 - i by omega]
      · simp
    rw [e, numB_snoc, ih, UInt8.toNat_ofNat', Nat.mod_eq_of_lt (show N % 256 < 2 ^ 8 from Nat.mod_lt _ (by decide)), Nat.pow_succ, Nat.mul_comm (256 ^ n), Nat.mod_mul]
    omega
theorem pv_put {L : List Nat} {o i p p' : Nat} (h : L[o + i]? = some p) : pv (L.set (o + i) p') o (i + 1) = pv L o i + 18446744073709551616 ^ i * p' := by
  have hl := (List.getElem?_eq_some_iff.1 h).1
  rw [pv_succ (x := p') (by rw [List.getElem?_set_self hl]), pv_set (by omega)]
theorem acc_step {Bi P P0 V c p p' x c' : Nat} (h : P + c * Bi = P0 + V) (hs : p' + c' * 18446744073709551616 = p + x + c) : (P + Bi * p') + c' * (Bi * 18446744073709551616) = (P0 + Bi * p) + (V + Bi * x) := by
  have h1 : Bi * (p' + c' * 18446744073709551616) = Bi * (p + x + c) := by rw [hs]
  rw [Nat.mul_add, Nat.mul_add, Nat.mul_add, Nat.mul_comm Bi c, Nat.mul_left_comm] at h1
  generalize c' * (Bi * 18446744073709551616) = z at *
  generalize Bi * p' = z1 at *
  generalize Bi * p = z2 at *
  generalize Bi * x = z3 at *
  generalize c * Bi = z4 at *
  omega
theorem sub_step {Bi P P0 V c p p' x c' t : Nat} (h : P + t * V = P0 + c * Bi) (hs : p' + t * x + c = p + c' * 18446744073709551616) : (P + Bi * p') + t * (V + Bi * x) = (P0 + Bi * p) + c' * (Bi * 18446744073709551616) := by
  have h1 : Bi * (p' + t * x + c) = Bi * (p + c' * 18446744073709551616) := by rw [hs]
  rw [Nat.mul_add, Nat.mul_add, Nat.mul_add, Nat.mul_comm Bi c, Nat.mul_left_comm Bi t, Nat.mul_left_comm Bi c'] at h1
  rw [Nat.mul_add]
  generalize c' * (Bi * 18446744073709551616) = z at *
  generalize Bi * p' = z1 at *
  generalize Bi * p = z2 at *
  generalize t * (Bi * x) = z3 at *
  generalize c * Bi = z4 at *
  generalize t * V = z5 at *
  omega
theorem mul_lt_word {x y : Nat} (hx : x < 18446744073709551616) (hy : y < 18446744073709551616) : x * y ≤ 340282366920938463426481119284349108225 := by
  have : x * y ≤ 18446744073709551615 * 18446744073709551615 := Nat.mul_le_mul (by omega) (by omega)
  omega
/-- One place of a product: what Mul64 and the three Add64 make. -/
theorem mul_place {x y p c : Nat} (hx : x < 18446744073709551616) (hy : y < 18446744073709551616) (hp : p < 18446744073709551616) (hc : c < 18446744073709551616) :
    ∃ p' c', p' < 18446744073709551616 ∧ c' < 18446744073709551616 ∧ p' + c' * 18446744073709551616 = p + x * y + c ∧
      p' = ((x * y % 18446744073709551616 + p) % 18446744073709551616 + c) % 18446744073709551616 ∧
      c' = (x * y / 18446744073709551616 + (x * y % 18446744073709551616 + p) / 18446744073709551616) + ((x * y % 18446744073709551616 + p) % 18446744073709551616 + c) / 18446744073709551616 := by
  have h := mul_lt_word hx hy
  generalize x * y = z at *
  refine ⟨_, _, ?_, ?_, ?_, rfl, rfl⟩ <;> omega
/-- One place of what is taken away. -/
theorem take_place {x t p c : Nat} (hx : x < 18446744073709551616) (ht : t < 18446744073709551616) (hp : p < 18446744073709551616) (hc : c < 18446744073709551616) :
    ∃ p' c', p' < 18446744073709551616 ∧ c' < 18446744073709551616 ∧ p' + t * x + c = p + c' * 18446744073709551616 ∧
      p' = (p + 18446744073709551616 - (x * t % 18446744073709551616 + c) % 18446744073709551616) % 18446744073709551616 ∧
      c' = (x * t / 18446744073709551616 + (x * t % 18446744073709551616 + c) / 18446744073709551616) + (if p < (x * t % 18446744073709551616 + c) % 18446744073709551616 then 1 else 0) := by
  have h := mul_lt_word hx ht
  rw [Nat.mul_comm t x]
  generalize x * t = z at *
  refine ⟨_, _, ?_, ?_, ?_, rfl, rfl⟩
  · omega
  · split <;> omega
  · split <;> omega
theorem take_end {p c : Nat} (hp : p < 18446744073709551616) (hc : c < 18446744073709551616) :
    ∃ p' c', p' < 18446744073709551616 ∧ c' < 18446744073709551616 ∧ p' + c = p + c' * 18446744073709551616 ∧ p' = (p + 18446744073709551616 - c) % 18446744073709551616 ∧ c' = (if p < c then 1 else 0) := by
  refine ⟨_, _, ?_, ?_, ?_, rfl, rfl⟩
  · omega
  · split <;> omega
  · split <;> omega
/-- Doubled words: S = 2^t, S' = 2^(64 - t). -/
theorem up_place {x c S S' : Nat} (hS : S * S' = 18446744073709551616) (hc : c < S) (hx : x < 18446744073709551616) : x * S % 18446744073709551616 + c < 18446744073709551616 ∧ x / S' < S ∧ (x * S % 18446744073709551616 + c) + 18446744073709551616 * (x / S') = x * S + c := by
  have hS0 : 0 < S := by omega
  have hS'0 : 0 < S' := by
    apply Nat.pos_of_ne_zero
    intro h
    subst h
    simp at hS
  have h1 : x * S % 18446744073709551616 = x % S' * S := by rw [← hS, Nat.mul_comm S S', Nat.mul_mod_mul_right]
  have h2 : x % S' + 1 ≤ S' := Nat.mod_lt x hS'0
  have h3 : (x % S' + 1) * S ≤ S' * S := Nat.mul_le_mul_right _ h2
  have h4 : x / S' < S := by
    rw [Nat.div_lt_iff_lt_mul hS'0, hS]
    exact hx
  have h5 : S' * (x / S') + x % S' = x := Nat.div_add_mod x S'
  rw [h1]
  rw [Nat.add_mul, Nat.one_mul, Nat.mul_comm S' S, hS] at h3
  refine ⟨by omega, h4, ?_⟩
  have h6 : x * S = (S' * (x / S') + x % S') * S := by rw [h5]
  rw [h6, Nat.add_mul, Nat.mul_assoc, Nat.mul_comm (x / S') S, ← Nat.mul_assoc, Nat.mul_comm S' S, hS]
  omega
theorem down_place {x S S' : Nat} (hS : S * S' = 18446744073709551616) (hx : x < 18446744073709551616) : x * S' % 18446744073709551616 = x % S * S' ∧ x / S < S' ∧ x % S * S' + 18446744073709551616 * (x / S) = x * S' := by
  have hS0 : 0 < S := by
    apply Nat.pos_of_ne_zero
    intro h
    subst h
    simp at hS
  refine ⟨by rw [← hS, Nat.mul_mod_mul_right], by rw [Nat.div_lt_iff_lt_mul hS0, Nat.mul_comm, hS]; exact hx, ?_⟩
  have h5 : S * (x / S) + x % S = x := Nat.div_add_mod x S
  have h6 : x * S' = (S * (x / S) + x % S) * S' := by rw [h5]
  rw [h6, Nat.add_mul, Nat.mul_assoc, Nat.mul_comm (x / S) S', ← Nat.mul_assoc, hS]
  omega
/-- One place more, halved. -/
theorem down_step {A x S S' Bi : Nat} (hS : S * S' = 18446744073709551616) : (A + Bi * 18446744073709551616 * x) / S = A / S + Bi * (x % S * S' + 18446744073709551616 * (x / S)) := by
  have hS0 : 0 < S := by
    apply Nat.pos_of_ne_zero
    intro h
    subst h
    simp at hS
  have h5 : S * (x / S) + x % S = x := Nat.div_add_mod x S
  have h6 : x * S' = x % S * S' + 18446744073709551616 * (x / S) := by
    have h7 : x * S' = (S * (x / S) + x % S) * S' := by rw [h5]
    rw [h7, Nat.add_mul, Nat.mul_assoc, Nat.mul_comm (x / S) S', ← Nat.mul_assoc, hS]
    omega
  rw [← h6]
  have h8 : Bi * 18446744073709551616 * x = S * (Bi * (x * S')) := by
    rw [← hS, Nat.mul_comm x S', Nat.mul_left_comm S Bi, Nat.mul_assoc Bi, Nat.mul_assoc S]
  rw [h8, Nat.add_mul_div_left _ _ hS0]
theorem numW_drop {R : List Nat} {j x : Nat} (h : R[j]? = some x) : numW (R.drop j) = x + 18446744073709551616 * numW (R.drop (j + 1)) := by
  have hl := List.getElem?_eq_some_iff.1 h
  rw [List.drop_eq_getElem_cons hl.1, numW, hl.2]
theorem numW_cut (R : List Nat) (j : Nat) (h : j ≤ R.length) : numW R = pv R 0 j + 18446744073709551616 ^ j * numW (R.drop j) := by
  have e : R = R.take j ++ R.drop j := (List.take_append_drop _ _).symm
  have h1 : numW R = numW (R.take j ++ R.drop j) := by rw [← e]
  rw [h1, numW_append, List.length_take, Nat.min_eq_left h]
  simp [pv]
theorem numW_piece {R : List Nat} {j n : Nat} (h : j + n ≤ R.length) : numW (R.drop j) = pv R j n + 18446744073709551616 ^ n * numW (R.drop (j + n)) := by
  have := numW_cut (R.drop j) n (by rw [List.length_drop]; omega)
  rw [List.drop_drop] at this
  simpa [pv] using this
/-- What stands above a piece that holds the number is nought. -/
theorem piece_all {R : List Nat} {j n : Nat} (h : j + n ≤ R.length) (hl : numW (R.drop j) < 18446744073709551616 ^ n) : numW (R.drop (j + n)) = 0 ∧ pv R j n = numW (R.drop j) := by
  have h1 := numW_piece h
  have h0 : numW (R.drop (j + n)) = 0 := by
    apply Classical.byContradiction
    intro hn
    have : 18446744073709551616 ^ n * 1 ≤ 18446744073709551616 ^ n * numW (R.drop (j + n)) := Nat.mul_le_mul_left _ (by omega)
    omega
  rw [h0, Nat.mul_zero, Nat.add_zero] at h1
  exact ⟨h0, h1.symm⟩
/-- One place of a division: what is left stays below the divisor, and all of it adds up. -/
theorem div_place {R R' Q : List Nat} {D N0 j n U q y : Nat} (hlen : R'.length = R.length) (hin : j + (n + 1) ≤ R.length) (hout : ∀ k, (k < j ∨ j + (n + 1) ≤ k) → R'[k]? = R[k]?)
    (hU : U = numW (R.drop j)) (hUl : U < 18446744073709551616 ^ (n + 1)) (hp : pv R' j (n + 1) = U % D) (hq : q = U / D) (hD : 0 < D) (hy : Q[j]? = some y)
    (hN : numW R + D * (18446744073709551616 ^ (j + 1) * numW (Q.drop (j + 1))) = N0) :
    numW (R'.drop j) < D ∧ numW R' + D * (18446744073709551616 ^ j * numW ((Q.set j q).drop j)) = N0 := by
  obtain ⟨h0, hpv⟩ := piece_all hin (by rw [← hU]; exact hUl)
  have hd0 : R'.drop (j + (n + 1)) = R.drop (j + (n + 1)) := by
    apply List.ext_getElem?
    intro k
    rw [List.getElem?_drop, List.getElem?_drop]
    exact hout _ (by omega)
  have h1 : numW (R'.drop j) = U % D := by
    rw [numW_piece (n := n + 1) (by omega), hd0, h0, hp]
    omega
  refine ⟨by rw [h1]; exact Nat.mod_lt _ hD, ?_⟩
  have hjl : j < Q.length := (List.getElem?_eq_some_iff.1 hy).1
  have h2 : numW ((Q.set j q).drop j) = q + 18446744073709551616 * numW (Q.drop (j + 1)) := by
    rw [numW_drop (x := q) (by rw [List.getElem?_set_self hjl]), List.drop_set_of_lt (by omega)]
  have h3 : pv R' 0 j = pv R 0 j := pv_congr fun k _ hk => hout k (by omega)
  have h4 := numW_cut R j (by omega)
  have h5 := numW_cut R' j (by omega)
  rw [h3, h1] at h5
  rw [← hU] at h4
  have h6 := Nat.div_add_mod U D
  rw [← hq] at h6
  rw [h2, h5, ← hN, h4]
  have h7 : D * (18446744073709551616 ^ j * (q + 18446744073709551616 * numW (Q.drop (j + 1)))) = 18446744073709551616 ^ j * (D * q) + D * (18446744073709551616 ^ (j + 1) * numW (Q.drop (j + 1))) := by
    rw [Nat.mul_add, Nat.mul_add, Nat.mul_left_comm D, Nat.pow_succ, Nat.mul_assoc (18446744073709551616 ^ j)]
  have h8 : 18446744073709551616 ^ j * U = 18446744073709551616 ^ j * (D * q) + 18446744073709551616 ^ j * (U % D) := by rw [← Nat.mul_add, h6]
  rw [h7, h8]
  omega
theorem div_first {A Bn S la n : Nat} {R : List Nat} (hl : R.length = la + 1) (hN : numW R = A * S) (hA : A < 18446744073709551616 ^ la) (hB : 18446744073709551616 ^ (n - 1) ≤ Bn) (hS : 0 < S) (hn : 1 ≤ n) (hnl : n ≤ la) : numW (R.drop (la + 1 - n)) < Bn * S := by
  have h1 := numW_cut R (la + 1 - n) (by omega)
  have h2 : A * S < 18446744073709551616 ^ la * S := Nat.mul_lt_mul_of_pos_right hA hS
  have h3 : 18446744073709551616 ^ la = 18446744073709551616 ^ (la + 1 - n) * 18446744073709551616 ^ (n - 1) := by rw [← Nat.pow_add]; congr 1; omega
  have h4 : 18446744073709551616 ^ (n - 1) * S ≤ Bn * S := Nat.mul_le_mul_right _ hB
  rw [hN] at h1
  apply Classical.byContradiction
  intro hc
  have h5 : 18446744073709551616 ^ (la + 1 - n) * (18446744073709551616 ^ (n - 1) * S) ≤ 18446744073709551616 ^ (la + 1 - n) * numW (R.drop (la + 1 - n)) := Nat.mul_le_mul_left _ (by omega)
  rw [← Nat.mul_assoc, ← h3] at h5
  omega
theorem top_one {L : List Nat} {m x : Nat} (h0 : L[m]? = some x) : pv L 0 (m + 1) = x * 18446744073709551616 ^ m + pv L 0 m := by
  rw [pv_succ (x := x) (by rw [Nat.zero_add]; exact h0), Nat.mul_comm]
  omega
theorem top_two {L : List Nat} {m x1 x0 : Nat} (h0 : L[m]? = some x0) (h1 : L[m + 1]? = some x1) : pv L 0 (m + 2) = (x1 * 18446744073709551616 + x0) * 18446744073709551616 ^ m + pv L 0 m := by
  rw [top_one h1, top_one h0, Nat.pow_succ, Nat.add_mul, Nat.mul_assoc, Nat.mul_comm (18446744073709551616 ^ m) 18446744073709551616]
  omega
theorem top_three {L : List Nat} {m x2 x1 x0 : Nat} (h0 : L[m]? = some x0) (h1 : L[m + 1]? = some x1) (h2 : L[m + 2]? = some x2) : pv L 0 (m + 3) = ((x2 * 18446744073709551616 + x1) * 18446744073709551616 + x0) * 18446744073709551616 ^ m + pv L 0 m := by
  have key : ∀ z p x y : Nat, z * (p * 18446744073709551616) + (x * p + y) = (z * 18446744073709551616 + x) * p + y := by
    intro z p x y
    rw [Nat.add_mul, Nat.mul_assoc, Nat.mul_comm p 18446744073709551616, Nat.add_assoc]
  rw [top_two h1 h2, top_one h0, Nat.pow_succ]
  exact key _ _ _ _
/-- The first guess is not too small: W two words of U, t the divisor's first. -/
theorem guess_start {U D W t p lo lo' : Nat} (hU : U = W * p + lo') (hD : D = t * p + lo) (hlo' : lo' < p) (ht : 0 < t) : U / D ≤ W / t := by
  rw [Nat.le_div_iff_mul_le ht]
  have h1 : U / D * D ≤ U := Nat.div_mul_le_self _ _
  generalize U / D = q at *
  have h2 : q * D = q * t * p + q * lo := by rw [hD, Nat.mul_add, Nat.mul_assoc]
  have h3 : q * t * p < (W + 1) * p := by
    rw [Nat.add_mul, Nat.one_mul]
    omega
  have := Nat.lt_of_mul_lt_mul_right h3
  omega
theorem guess_top {U D W u1 u0 t p lo lo' : Nat} (hU : U = W * p + lo') (hD : D = t * p + lo) (hlo : lo < p) (hW : W = u1 * 18446744073709551616 + u0) (h : U < 18446744073709551616 * D) : u1 ≤ t := by
  apply Classical.byContradiction
  intro hn
  have h1 : (t + 1) * 18446744073709551616 ≤ u1 * 18446744073709551616 := Nat.mul_le_mul_right _ (by omega)
  have h2 : (t + 1) * 18446744073709551616 * p ≤ W * p := Nat.mul_le_mul_right _ (by omega)
  have h3 : (t + 1) * 18446744073709551616 * p = 18446744073709551616 * (t * p + p) := by
    rw [Nat.mul_comm (t + 1), Nat.mul_assoc, Nat.add_mul, Nat.one_mul]
  rw [h3] at h2
  generalize t * p = z at *
  generalize W * p = z2 at *
  omega
/-- The guess is mended while the next word says so. -/
theorem guess_mend {U D W t v' u' x r p lo lo' : Nat} (hU : U = (W * 18446744073709551616 + u') * p + lo') (hD : D = (t * 18446744073709551616 + v') * p + lo) (hlo' : lo' < p) (hr : x * t + r = W) (hx : r * 18446744073709551616 + u' < x * v') : U / D < x := by
  have h1 : U / D * D ≤ U := Nat.div_mul_le_self _ _
  refine guess_low (lo := lo) (lo' := lo') (p := p) (U3 := W * 18446744073709551616 + u') (V2 := t * 18446744073709551616 + v') hlo' (by rw [← hD, ← hU]; exact h1) ?_
  rw [Nat.mul_add, ← Nat.mul_assoc, ← hr, Nat.add_mul, Nat.add_assoc]
  exact Nat.add_lt_add_left hx _
theorem guess_end {U D W t v' u' x r p lo lo' : Nat} (hU : U = (W * 18446744073709551616 + u') * p + lo') (hD : D = (t * 18446744073709551616 + v') * p + lo) (hlo : lo < p) (hD0 : 0 < D) (hr : x * t + r = W) (hx : x * v' ≤ r * 18446744073709551616 + u') (ht : 0 < t) (hxB : x < 18446744073709551616) : x ≤ U / D + 1 := by
  refine guess_high (lo' := lo') (p := p) (U3 := W * 18446744073709551616 + u') (V2 := t * 18446744073709551616 + v') hU hD hlo ?_ ?_ hD0
  · rw [Nat.mul_add, ← Nat.mul_assoc, ← hr, Nat.add_mul, Nat.add_assoc]
    exact Nat.add_le_add_left hx _
  · have h1 : x * p ≤ 18446744073709551616 * p := Nat.mul_le_mul_right _ (by omega)
    have h2 : 1 * 18446744073709551616 ≤ t * 18446744073709551616 := Nat.mul_le_mul_right _ ht
    have h3 : 18446744073709551616 * p ≤ (t * 18446744073709551616 + v') * p := Nat.mul_le_mul_right _ (Nat.le_trans (by rw [Nat.one_mul] at h2; exact h2) (Nat.le_add_right _ _))
    rw [hD]
    exact Nat.le_trans h1 (Nat.le_trans h3 (Nat.le_add_right _ _))
theorem guess_over {x v' r u' : Nat} (hx : x < 18446744073709551616) (hv : v' < 18446744073709551616) : x * v' ≤ (18446744073709551616 + r) * 18446744073709551616 + u' := by
  have := mul_lt_word hx hv
  omega
/-- Digits, the least first, as a number. -/
def numD : List Nat → Nat
  | [] => 0
  | x :: xs => x + 256 * numD xs
theorem numD_append (a b : List Nat) : numD (a ++ b) = numD a + 256 ^ a.length * numD b := by
  induction a with
  | nil => simp [numD]
  | cons x a ih =>
    rw [List.cons_append, numD, numD, ih, List.length_cons, Nat.pow_succ, Nat.mul_add, Nat.add_assoc, Nat.mul_comm (256 ^ a.length) 256, Nat.mul_assoc]
theorem numD_trim : ∀ (n : Nat) (l : List Nat), l.length = n → numD (trimL l) = numD l
  | 0, l, h => by rw [List.eq_nil_of_length_eq_zero h]; rfl
  | n + 1, l, h => by
    rcases List.eq_nil_or_concat l with rfl | ⟨l', d, rfl⟩
    · rfl
    · rw [List.concat_eq_append] at h ⊢
      by_cases hd : d = 0
      · subst hd
        rw [trimL_zero, numD_append, numD_trim n l' (by simp at h; exact h)]
        simp [numD]
      · rw [trimL_stop hd]
def AllD (L : List Nat) : Prop := ∀ x ∈ L, x < 256
theorem AllD.at {L : List Nat} (h : AllD L) {i n : Nat} (hn : L[i]? = some n) : n < 256 := h n (List.mem_of_getElem? hn)
theorem AllD.set {L : List Nat} (h : AllD L) (i : Nat) {n : Nat} (hn : n < 256) : AllD (L.set i n) := by
  intro x hx
  rcases List.mem_or_eq_of_mem_set hx with hx | rfl
  · exact h x hx
  · exact hn
theorem AllD.take {L : List Nat} (h : AllD L) (i : Nat) : AllD (L.take i) := fun x hx => h x (List.mem_of_mem_take hx)
theorem AllD.drop {L : List Nat} (h : AllD L) (i : Nat) : AllD (L.drop i) := fun x hx => h x (List.mem_of_mem_drop hx)
theorem allD_zero (n : Nat) : AllD (List.replicate n 0) := fun x hx => by rw [List.eq_of_mem_replicate hx]; decide
theorem numD_zero : ∀ n, numD (List.replicate n 0) = 0
  | 0 => rfl
  | n + 1 => by rw [List.replicate_succ, numD, numD_zero n]
theorem numD_lt : ∀ {L : List Nat}, AllD L → numD L < 256 ^ L.length
  | [], _ => by simp [numD]
  | x :: L, h => by
    have h1 := numD_lt (L := L) (fun y hy => h y (List.mem_cons_of_mem _ hy))
    have h2 := h x (by simp)
    rw [numD, List.length_cons, Nat.pow_succ]
    have h3 : 256 * (numD L + 1) ≤ 256 * 256 ^ L.length := Nat.mul_le_mul_left _ h1
    rw [Nat.mul_comm (256 ^ L.length)]
    omega
def pd (L : List Nat) (o n : Nat) : Nat := numD ((L.drop o).take n)
theorem pd_zero (L : List Nat) (o : Nat) : pd L o 0 = 0 := by simp [pd, numD]
theorem pd_at (L : List Nat) (o n k : Nat) : ((L.drop o).take n)[k]? = if k < n then L[o + k]? else none := by
  rw [List.getElem?_take]
  split
  · rw [List.getElem?_drop]
  · rfl
theorem numD_snoc (l : List Nat) (x : Nat) : numD (l ++ [x]) = numD l + 256 ^ l.length * x := by
  rw [numD_append]
  simp [numD]
theorem pd_succ {L : List Nat} {o n x : Nat} (h : L[o + n]? = some x) : pd L o (n + 1) = pd L o n + 256 ^ n * x := by
  have hl := (List.getElem?_eq_some_iff.1 h).1
  have e : (L.drop o).take (n + 1) = (L.drop o).take n ++ [x] := by
    rw [List.take_add_one, List.getElem?_drop, h]
    rfl
  unfold pd
  rw [e, numD_snoc]
  congr 2
  rw [List.length_take, List.length_drop]
  congr 1
  omega
theorem pd_congr {L L' : List Nat} {o n : Nat} (h : ∀ k, o ≤ k → k < o + n → L'[k]? = L[k]?) : pd L' o n = pd L o n := by
  unfold pd
  congr 1
  apply List.ext_getElem?
  intro k
  rw [pd_at, pd_at]
  split
  · exact h _ (by omega) (by omega)
  · rfl
theorem pd_set {L : List Nat} {o n i x : Nat} (h : i < o ∨ o + n ≤ i) : pd (L.set i x) o n = pd L o n :=
  pd_congr fun k h1 h2 => List.getElem?_set_ne (by omega)
theorem pd_all (L : List Nat) : pd L 0 L.length = numD L := by simp [pd]
theorem pd_full {L : List Nat} {n : Nat} (h : L.length = n) : pd L 0 n = numD L := by rw [← h]; exact pd_all L
theorem pd_lt {L : List Nat} (h : AllD L) (o n : Nat) : pd L o n < 256 ^ n := by
  have h1 := numD_lt ((h.drop o).take n)
  have h2 : 256 ^ ((L.drop o).take n).length ≤ 256 ^ n := Nat.pow_le_pow_right (by decide) (List.length_take_le _ _)
  exact Nat.lt_of_lt_of_le h1 h2
theorem pd_append (L : List Nat) (o m n : Nat) (h : o + m ≤ L.length) : pd L o (m + n) = pd L o m + 256 ^ m * pd L (o + m) n := by
  have e : (L.drop o).take (m + n) = (L.drop o).take m ++ (L.drop (o + m)).take n := by
    rw [List.take_add, List.drop_drop]
  unfold pd
  rw [e, numD_append]
  congr 2
  rw [List.length_take, List.length_drop]
  congr 1
  omega
theorem numD_take {V : List Nat} {i x : Nat} (h : V[i]? = some x) : numD (V.take (i + 1)) = numD (V.take i) + 256 ^ i * x := by
  have := pd_succ (L := V) (o := 0) (n := i) (x := x) (by rw [Nat.zero_add]; exact h)
  simpa [pd] using this
theorem numD_set {L : List Nat} {i x y : Nat} (h : L[i]? = some x) : numD (L.set i y) + 256 ^ i * x = numD L + 256 ^ i * y := by
  induction L generalizing i with
  | nil => cases h
  | cons z L ih =>
    cases i with
    | zero =>
      simp only [List.getElem?_cons_zero, Option.some.injEq] at h
      subst h
      simp [numD]
      omega
    | succ i =>
      simp only [List.getElem?_cons_succ] at h
      have := ih h
      rw [List.set_cons_succ, numD, numD, Nat.pow_succ, Nat.mul_comm (256 ^ i), Nat.mul_assoc, Nat.mul_assoc]
      omega
theorem tidy_geD {L : List Nat} (h : Tidy L) (h0 : L ≠ []) : 256 ^ (L.length - 1) ≤ numD L := by
  obtain ⟨l, x, e⟩ : ∃ l x, L = l ++ [x] := by
    rcases List.eq_nil_or_concat L with h1 | ⟨l, x, h1⟩
    · exact absurd h1 h0
    · exact ⟨l, x, by rw [h1, List.concat_eq_append]⟩
  have hx := tidy_last h e
  rw [e, numD_snoc, List.length_append]
  have h1 : l.length + [x].length - 1 = l.length := by simp
  rw [h1]
  have : 256 ^ l.length * 1 ≤ 256 ^ l.length * x := Nat.mul_le_mul_left _ (by omega)
  omega
theorem tidy_lenD {A C : List Nat} (hA : Tidy A) (hC : AllD C) (h : numD A ≤ numD C) : A.length ≤ C.length := by
  apply Classical.byContradiction
  intro hn
  have h0 : A ≠ [] := by intro e; subst e; simp at hn
  have h1 := tidy_geD hA h0
  have h2 := numD_lt hC
  have h3 : 256 ^ C.length ≤ 256 ^ (A.length - 1) := Nat.pow_le_pow_right (by decide) (by omega)
  omega
theorem tidy_nilD {L : List Nat} (h : Tidy L) : numD L = 0 ↔ L = [] := by
  constructor
  · intro h0
    apply Classical.byContradiction
    intro hn
    have := tidy_geD h hn
    have : 0 < 256 ^ (L.length - 1) := Nat.pow_pos (by decide)
    omega
  · intro h0; subst h0; rfl
theorem AllD.trim {L : List Nat} (h : AllD L) : AllD (trimL L) := by
  intro x hx
  unfold trimL at hx
  rw [List.mem_reverse] at hx
  exact h x (List.mem_reverse.1 ((List.dropWhile_sublist _).subset hx))
theorem pd_put {L : List Nat} {o i p p' : Nat} (h : L[o + i]? = some p) : pd (L.set (o + i) p') o (i + 1) = pd L o i + 256 ^ i * p' := by
  have hl := (List.getElem?_eq_some_iff.1 h).1
  rw [pd_succ (x := p') (by rw [List.getElem?_set_self hl]), pd_set (by omega)]
theorem acc_stepD {Bi P P0 V c p p' x c' : Nat} (h : P + c * Bi = P0 + V) (hs : p' + c' * 256 = p + x + c) : (P + Bi * p') + c' * (Bi * 256) = (P0 + Bi * p) + (V + Bi * x) := by
  have h1 : Bi * (p' + c' * 256) = Bi * (p + x + c) := by rw [hs]
  rw [Nat.mul_add, Nat.mul_add, Nat.mul_add, Nat.mul_comm Bi c, Nat.mul_left_comm] at h1
  generalize c' * (Bi * 256) = z at *
  generalize Bi * p' = z1 at *
  generalize Bi * p = z2 at *
  generalize Bi * x = z3 at *
  generalize c * Bi = z4 at *
  omega
theorem sub_stepD {Bi P P0 V c p p' x c' t : Nat} (h : P + t * V = P0 + c * Bi) (hs : p' + t * x + c = p + c' * 256) : (P + Bi * p') + t * (V + Bi * x) = (P0 + Bi * p) + c' * (Bi * 256) := by
  have h1 : Bi * (p' + t * x + c) = Bi * (p + c' * 256) := by rw [hs]
  rw [Nat.mul_add, Nat.mul_add, Nat.mul_add, Nat.mul_comm Bi c, Nat.mul_left_comm Bi t, Nat.mul_left_comm Bi c'] at h1
  rw [Nat.mul_add]
  generalize c' * (Bi * 256) = z at *
  generalize Bi * p' = z1 at *
  generalize Bi * p = z2 at *
  generalize t * (Bi * x) = z3 at *
  generalize c * Bi = z4 at *
  generalize t * V = z5 at *
  omega
theorem numD_drop {R : List Nat} {j x : Nat} (h : R[j]? = some x) : numD (R.drop j) = x + 256 * numD (R.drop (j + 1)) := by
  have hl := List.getElem?_eq_some_iff.1 h
  rw [List.drop_eq_getElem_cons hl.1, numD, hl.2]
theorem numD_cut (R : List Nat) (j : Nat) (h : j ≤ R.length) : numD R = pd R 0 j + 256 ^ j * numD (R.drop j) := by
  have e : R = R.take j ++ R.drop j := (List.take_append_drop _ _).symm
  have h1 : numD R = numD (R.take j ++ R.drop j) := by rw [← e]
  rw [h1, numD_append, List.length_take, Nat.min_eq_left h]
  simp [pd]
theorem numD_piece {R : List Nat} {j n : Nat} (h : j + n ≤ R.length) : numD (R.drop j) = pd R j n + 256 ^ n * numD (R.drop (j + n)) := by
  have := numD_cut (R.drop j) n (by rw [List.length_drop]; omega)
  rw [List.drop_drop] at this
  simpa [pd] using this
theorem prod_row {L L' : List Nat} {i m k p x NA NV : Nat} (hlen : L'.length = L.length) (hout : ∀ j, (j < i ∨ i + m ≤ j) → L'[j]? = L[j]?) (hE : pv L' i m + k * 18446744073709551616 ^ m = pv L i m + x * NV) (hI : pv L 0 (i + m) = NA * NV) (hp : L'[i + m]? = some p) :
    pv (L'.set (i + m) k) 0 (i + 1 + m) = (NA + 18446744073709551616 ^ i * x) * NV := by
  have hl := (List.getElem?_eq_some_iff.1 hp).1
  have e1 : i + 1 + m = i + (m + 1) := by omega
  rw [e1, pv_append _ _ _ _ (by rw [List.length_set]; omega), Nat.zero_add, pv_put hp, pv_set (by omega)]
  have e2 : pv L' 0 i = pv L 0 i := pv_congr fun j _ hj => hout j (by omega)
  have e3 := pv_append L 0 i m (by omega)
  rw [Nat.zero_add, hI] at e3
  rw [e2, Nat.mul_comm (18446744073709551616 ^ m) k, hE, Nat.mul_add, Nat.add_mul, e3, Nat.add_assoc, Nat.mul_assoc]
theorem up_row {L : List Nat} {i cw q h x S NA p1 : Nat} (h0 : L[i]? = some cw) (h1 : (L.set i q)[i + 1]? = some p1) (hI : pv L 0 (i + 1) = NA * S) (hq : q + 18446744073709551616 * h = x * S + cw) :
    pv ((L.set i q).set (i + 1) h) 0 (i + 1 + 1) = (NA + 18446744073709551616 ^ i * x) * S := by
  have e1 := pv_put (L := L.set i q) (o := 0) (i := i + 1) (p := p1) (p' := h) (by rw [Nat.zero_add]; exact h1)
  have e2 := pv_put (L := L) (o := 0) (i := i) (p := cw) (p' := q) (by rw [Nat.zero_add]; exact h0)
  have e3 := pv_succ (L := L) (o := 0) (n := i) (x := cw) (by rw [Nat.zero_add]; exact h0)
  rw [Nat.zero_add] at e1 e2
  rw [e1, e2, Nat.add_mul, ← hI, e3, Nat.pow_succ, Nat.mul_assoc (18446744073709551616 ^ i) x S]
  have e4 : 18446744073709551616 ^ i * q + 18446744073709551616 ^ i * 18446744073709551616 * h = 18446744073709551616 ^ i * cw + 18446744073709551616 ^ i * (x * S) := by
    rw [Nat.mul_assoc, ← Nat.mul_add, hq, Nat.mul_add, Nat.add_comm]
  omega
theorem down_row {L : List Nat} {k p p0 x h s A S S' : Nat} (hS : S * S' = 18446744073709551616) (hp : L[k]? = some p) (h0 : L[k + 1]? = some p0) (hI : pv L 0 (k + 1) = A / S) (hh : h = x / S) (hs : s = x % S * S') :
    pv ((L.set (k + 1) h).set k (p + s)) 0 (k + 1 + 1) = (A + 18446744073709551616 ^ (k + 1) * x) / S := by
  have hl := (List.getElem?_eq_some_iff.1 h0).1
  rw [Nat.pow_succ, down_step hS, ← hI]
  have e0 : ((L.set (k + 1) h).set k (p + s))[k + 1]? = some h := by
    rw [List.getElem?_set_ne (by omega), List.getElem?_set_self hl]
  rw [pv_succ (x := h) (by rw [Nat.zero_add]; exact e0)]
  have e1 : pv ((L.set (k + 1) h).set k (p + s)) 0 (k + 1) = pv L 0 k + 18446744073709551616 ^ k * (p + s) := by
    have e2 := pv_put (L := L.set (k + 1) h) (o := 0) (i := k) (p := p) (p' := p + s) (by rw [Nat.zero_add, List.getElem?_set_ne (by omega)]; exact hp)
    rw [Nat.zero_add] at e2
    rw [e2, pv_set (by omega)]
  rw [e1, pv_succ (x := p) (by rw [Nat.zero_add]; exact hp), ← hs, ← hh, Nat.pow_succ, Nat.mul_add (18446744073709551616 ^ k) p s, Nat.mul_add (18446744073709551616 ^ k) s, Nat.mul_assoc]
  omega
theorem or_low {t p a : Nat} (hp : p < 2 ^ t) : p ||| a * 2 ^ t = p + a * 2 ^ t := by
  rw [Nat.or_comm, Nat.mul_comm, ← Nat.two_pow_add_eq_or_of_lt hp]
  omega
theorem pow_halves {t : Nat} (ht : t ≤ 64) : 2 ^ t * 2 ^ (64 - t) = 18446744073709551616 := by
  rw [← Nat.pow_add, show t + (64 - t) = 64 by omega]
theorem tidy_of_ge {L : List Nat} (hA : AllW L) (h : L = [] ∨ 18446744073709551616 ^ (L.length - 1) ≤ numW L) : Tidy L := by
  rcases List.eq_nil_or_concat L with rfl | ⟨l, x, rfl⟩
  · rfl
  · rw [List.concat_eq_append] at *
    rcases h with h | h
    · simp at h
    · unfold Tidy
      refine trimL_stop (fun hx => ?_) l
      subst hx
      have h1 := numW_lt (L := l) (fun y hy => hA y (List.mem_append_left _ hy))
      rw [numW_snoc, Nat.mul_zero, Nat.add_zero, List.length_append] at h
      simp at h
      omega
theorem or_high {k p s a : Nat} (hp : p = 2 ^ k * a) (hs : s < 2 ^ k) : p ||| s = p + s := by
  rw [hp, Nat.two_pow_add_eq_or_of_lt hs]
theorem numB_take {l : List UInt8} {i : Nat} {c : UInt8} (h : l[i]? = some c) : numB (l.take (i + 1)) = numB (l.take i) * 256 + c.toNat := by
  rw [List.take_add_one, h]
  exact numB_snoc _ _
theorem pow8 (r : Nat) : 2 ^ (r * 8) = 256 ^ r := by
  rw [Nat.mul_comm, Nat.pow_mul]
end Go.Proofs.YtpcmpeeflnlkpaaDoor
