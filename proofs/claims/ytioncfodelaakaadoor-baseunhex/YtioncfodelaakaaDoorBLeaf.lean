/-
  The document's small functions of layer 2: pow, sign, digit, six, bit: what each answers.
-/
import Derived.Test.YtioncfodelaakaaDoorGen2
import Derived.Test.YtioncfodelaakaaDoorBPlain
namespace Go.Proofs.YtioncfodelaakaaDoor
open Go.RowKit Ch

theorem ret_int {k : IntKind} {a b : Int} (h : a = b) : Ending.returned (.int k a) = .returned (.int k b) := by rw [h]

set_option maxHeartbeats 400000 in
theorem sPow_any (n : Nat) (w : World) (hn : n ≤ 20) :
    Calls Tryd.prog 35 #[.int .i64 (n : Int)] w fun e w' => e = .returned (.int .i64 ((2 ^ n : Nat) : Int)) ∧ w' = w := by
  go_enter Tryd.func35, Tryd.ntmps35
  go_wp2
  go_loop [3, 4] (fun p t => ∃ i q : Nat, i ≤ n ∧ t = .int .i64 (i : Int) ∧ p = .int .i64 (q : Int) ∧ Hid (q * 2 ^ (n - i) = 2 ^ n) ∧ q ≤ 2000000) (fun _ t => n - (intOf t).toNat)
  case atStart => exact ⟨0, 1, by omega, rfl, rfl, by simp [Hid], by omega⟩
  case round =>
    obtain ⟨i, q, hi, rfl, rfl, hq, hl⟩ := hrel
    by_cases hlt : i < n
    · have h2 : Hid (q * 2 * 2 ^ (n - (i + 1)) = 2 ^ n) := by
        have e : n - i = (n - (i + 1)) + 1 := by omega
        have := hq.out
        rw [e, Nat.pow_succ] at this
        unfold Hid
        rw [Nat.mul_assoc, Nat.mul_comm 2]
        exact this
      have h3 : q * 2 ≤ 2000000 := by
        have e1 : q * 2 ≤ q * 2 * 2 ^ (n - (i + 1)) := Nat.le_mul_of_pos_right _ (Nat.pow_pos (by omega))
        have e2 : (2 : Nat) ^ n ≤ 2 ^ 20 := Nat.pow_le_pow_right (by omega) hn
        have := h2.out
        omega
      clear hq
      go_wp2
      go_round
      case rel => exact ⟨i + 1, q * 2, by omega, by go_num, by go_num, h2, h3⟩
      case measure => simp [intOf]; omega
    · have h2 : Hid ((q : Int) = ((2 ^ n : Nat) : Int)) := by
        have := hq.out
        rw [show n - i = 0 by omega, Nat.pow_zero, Nat.mul_one] at this
        unfold Hid
        rw [this]
      clear hq
      go_wp2
      go_ret
      exact ⟨ret_int h2.out, rfl⟩

set_option maxHeartbeats 400000 in
theorem sSign_any (n : Nat) (w : World) (hn : n < 64) :
    Calls Tryd.prog 25 #[.int .i64 (n : Int)] w fun e w' => e = .returned (.int .u8 (signN n : Int)) ∧ w' = w := by
  by_cases h1 : n < 26
  · have hq : Hid ((65 + (n : Int)) = (signN n : Int)) := by unfold Hid signN; rw [if_pos h1]; omega
    go_enter Tryd.func25, Tryd.ntmps25
    go_wp2
    go_ret
    exact ⟨ret_int hq.out, rfl⟩
  by_cases h2 : n < 52
  · have hq : Hid ((97 + (n : Int) - 26) = (signN n : Int)) := by unfold Hid signN; rw [if_neg h1, if_pos h2]; omega
    go_enter Tryd.func25, Tryd.ntmps25
    go_wp2
    go_ret
    exact ⟨ret_int hq.out, rfl⟩
  by_cases h3 : n < 62
  · have hq : Hid ((48 + (n : Int) - 52) = (signN n : Int)) := by unfold Hid signN; rw [if_neg h1, if_neg h2, if_pos h3]; omega
    go_enter Tryd.func25, Tryd.ntmps25
    go_wp2
    go_ret
    exact ⟨ret_int hq.out, rfl⟩
  by_cases h4 : n = 62
  · subst h4
    go_enter Tryd.func25, Tryd.ntmps25
    go_wp2
    go_ret
    exact ⟨rfl, rfl⟩
  obtain rfl : n = 63 := by omega
  go_enter Tryd.func25, Tryd.ntmps25
  go_wp2
  go_ret
  exact ⟨rfl, rfl⟩

set_option maxHeartbeats 400000 in
theorem sDigit_any (c : Nat) (w : World) (hc : c < 256) :
    Calls Tryd.prog 36 #[.int .u8 (c : Int)] w fun e w' => e = .returned (.int .i64 (digitZ c)) ∧ w' = w := by
  have fin : ∀ {z : Int}, Hid (z = digitZ c) → Ending.returned (.int .i64 z) = .returned (.int .i64 (digitZ c)) := fun h => ret_int h.out
  by_cases h1 : 48 ≤ c
  · by_cases h2 : c ≤ 57
    · have hq : Hid ((c : Int) - 48 = digitZ c) := by unfold Hid digitZ; rw [if_pos ⟨h1, h2⟩]
      go_enter Tryd.func36, Tryd.ntmps36
      go_wp2
      go_ret
      exact ⟨fin hq, rfl⟩
    · by_cases h3 : 97 ≤ c
      · by_cases h4 : c ≤ 102
        · have hq : Hid ((c : Int) - 87 = digitZ c) := by unfold Hid digitZ; rw [if_neg (by omega), if_pos ⟨h3, h4⟩]
          go_enter Tryd.func36, Tryd.ntmps36
          go_wp2
          go_ret
          exact ⟨fin hq, rfl⟩
        · have hq : Hid (-1 = digitZ c) := by unfold Hid digitZ; rw [if_neg (by omega), if_neg (by omega), if_neg (by omega)]
          go_enter Tryd.func36, Tryd.ntmps36
          go_wp2
          go_ret
          exact ⟨fin hq, rfl⟩
      · by_cases h5 : 65 ≤ c
        · by_cases h6 : c ≤ 70
          · have hq : Hid ((c : Int) - 55 = digitZ c) := by unfold Hid digitZ; rw [if_neg (by omega), if_neg (by omega), if_pos ⟨h5, h6⟩]
            go_enter Tryd.func36, Tryd.ntmps36
            go_wp2
            go_ret
            exact ⟨fin hq, rfl⟩
          · have hq : Hid (-1 = digitZ c) := by unfold Hid digitZ; rw [if_neg (by omega), if_neg (by omega), if_neg (by omega)]
            go_enter Tryd.func36, Tryd.ntmps36
            go_wp2
            go_ret
            exact ⟨fin hq, rfl⟩
        · have hq : Hid (-1 = digitZ c) := by unfold Hid digitZ; rw [if_neg (by omega), if_neg (by omega), if_neg (by omega)]
          go_enter Tryd.func36, Tryd.ntmps36
          go_wp2
          go_ret
          exact ⟨fin hq, rfl⟩
  · have hq : Hid (-1 = digitZ c) := by unfold Hid digitZ; rw [if_neg (by omega), if_neg (by omega), if_neg (by omega)]
    go_enter Tryd.func36, Tryd.ntmps36
    go_wp2
    go_ret
    exact ⟨fin hq, rfl⟩

theorem sixZ_of {c n : Nat} (hn : n < 64) (h : signN n = c) : sixZ c = n := by
  unfold sixZ
  rw [(six_sign hn).1 h]
theorem sixZ_none {c : Nat} (h : ∀ m, m < 64 → signN m ≠ c) : sixZ c = -1 := by
  unfold sixZ
  cases e : sixO c with
  | none => rfl
  | some m => exact absurd ((six_sign (six_lt e)).2 e) (h m (six_lt e))

set_option maxHeartbeats 400000 in
theorem sSix_any (c : Nat) (w : World) :
    Calls Tryd.prog 34 #[.int .u8 (c : Int)] w fun e w' => e = .returned (.int .i64 (sixZ c)) ∧ w' = w := by
  go_enter Tryd.func34, Tryd.ntmps34
  go_wp2
  go_loop [3] (fun t => ∃ n : Nat, n ≤ 64 ∧ t = .int .i64 (n : Int) ∧ Hid (∀ m, m < n → signN m ≠ c)) (fun t => 64 - (intOf t).toNat)
  case atStart => exact ⟨0, by omega, rfl, fun m hm => by omega⟩
  case round =>
    obtain ⟨n, hn, rfl, hq⟩ := hrel
    by_cases hlt : n < 64
    · have hS := sSign_any n w hlt
      by_cases he : signN n = c
      · have e1 : ((signN n : Int) == (c : Int)) = true := beq_iff_eq.2 (by omega)
        have h2 : Hid ((n : Int) = sixZ c) := (sixZ_of hlt he).symm
        clear hq he
        go_wp2_with fail
        refine hS.mono ?_
        rintro e w' ⟨rfl, hw⟩
        rw [hw]
        clear hw w'
        go_wp2
        go_ret
        exact ⟨ret_int h2.out, rfl⟩
      · have e1 : ((signN n : Int) == (c : Int)) = false := beq_eq_false_iff_ne.2 (by omega)
        have h2 : Hid (∀ m, m < n + 1 → signN m ≠ c) := by
          intro m hm
          rcases Nat.lt_or_ge m n with h | h
          · exact hq.out m h
          · obtain rfl : m = n := by omega
            exact he
        clear hq he
        go_wp2_with fail
        refine hS.mono ?_
        rintro e w' ⟨rfl, hw⟩
        rw [hw]
        clear hw w'
        go_wp2
        go_round
        case rel => exact ⟨n + 1, by omega, by go_num, h2⟩
        case measure => simp [intOf]; omega
    · have h2 : Hid (-1 = sixZ c) := (sixZ_none (fun m hm => hq.out m (by omega))).symm
      clear hq
      go_wp2
      go_ret
      exact ⟨ret_int h2.out, rfl⟩
end Go.Proofs.YtioncfodelaakaaDoor
