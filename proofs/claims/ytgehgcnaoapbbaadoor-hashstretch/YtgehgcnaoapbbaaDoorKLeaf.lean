/-
  Package hash: rotations, the small functions.
-/
import Derived.Test.YtgehgcnaoapbbaaDoorHGen
import Derived.Test.YtgehgcnaoapbbaaDoorKPlain
namespace Go.Proofs.YtgehgcnaoapbbaaDoor
open Go.RowKit Ch
set_option maxRecDepth 100000

theorem wraps_u32 (n : Int) (h₀ : 0 ≤ n) (h₁ : n < 2 ^ 32) : IntKind.u32.wrap n = n := by rw [IntKind.wrap_u32]; omega
theorem and32 (a b : Nat) (ha : a < 4294967296) (hb : b < 4294967296) : bits .and .u32 (a : Int) (b : Int) = ((a &&& b : Nat) : Int) := (bits_nat .u32 32 (by decide) wraps_u32 a b ha hb).1
theorem or32 (a b : Nat) (ha : a < 4294967296) (hb : b < 4294967296) : bits .or .u32 (a : Int) (b : Int) = ((a ||| b : Nat) : Int) := (bits_nat .u32 32 (by decide) wraps_u32 a b ha hb).2
theorem xor_nat (k : IntKind) (j : Nat) (hj : j ≤ k.bits) (hk : ∀ n : Int, 0 ≤ n → n < 2 ^ j → k.wrap n = n) (a b : Nat) (ha : a < 2 ^ j) (hb : b < 2 ^ j) : bits .xor k (a : Int) (b : Int) = ((a ^^^ b : Nat) : Int) := by
  have hp : 2 ^ j ≤ 2 ^ k.bits := Nat.pow_le_pow_right (by decide) hj
  have ha' : a % 2 ^ k.bits = a := Nat.mod_eq_of_lt (Nat.lt_of_lt_of_le ha hp)
  have hb' : b % 2 ^ k.bits = b := Nat.mod_eq_of_lt (Nat.lt_of_lt_of_le hb hp)
  have cast : ∀ n : Nat, n < 2 ^ j → ((n : Nat) : Int) < 2 ^ j := fun n h => by exact_mod_cast h
  simp only [bits, BitVec.ofInt_natCast, BitVec.toNat_xor, BitVec.toNat_ofNat, ha', hb']
  exact hk _ (Int.natCast_nonneg _) (cast _ (Nat.xor_lt_two_pow ha hb))
theorem xor32 (a b : Nat) (ha : a < 4294967296) (hb : b < 4294967296) : bits .xor .u32 (a : Int) (b : Int) = ((a ^^^ b : Nat) : Int) := xor_nat .u32 32 (by decide) wraps_u32 a b ha hb
theorem xor8 (a b : Nat) (ha : a < 256) (hb : b < 256) : bits .xor .u8 (a : Int) (b : Int) = ((a ^^^ b : Nat) : Int) := xor_nat .u8 8 (by decide) wraps_u8 a b ha hb
theorem or8 (a b : Nat) (ha : a < 256) (hb : b < 256) : bits .or .u8 (a : Int) (b : Int) = ((a ||| b : Nat) : Int) := (bits_nat .u8 8 (by decide) wraps_u8 a b ha hb).2
theorem wrap_u64 (n : Int) : IntKind.u64.wrap n = n % 18446744073709551616 := by simp [IntKind.wrap, IntKind.bits, IntKind.signed]
theorem wraps_u64 (n : Int) (h₀ : 0 ≤ n) (h₁ : n < 2 ^ 64) : IntKind.u64.wrap n = n := by rw [wrap_u64]; omega
theorem neg_shift (n : Nat) (hn : 1 ≤ n) (hn2 : n ≤ 31) : bits .and .u64 (IntKind.u64.wrap (-(n : Int))) 31 = ((32 - n : Nat) : Int) := by
  have e : IntKind.u64.wrap (-(n : Int)) = 18446744073709551616 - (n : Int) := by rw [wrap_u64]; omega
  have := bits_mask .u64 64 (by decide) wraps_u64 5 (by decide) (18446744073709551616 - (n : Int)) (by omega) (by omega)
  rw [e]
  refine this.trans ?_
  omega
theorem rotr_eq (x n : Nat) (hx : x < 4294967296) : bits .or .u32 ((x : Int) * 2 ^ (32 - n) % 4294967296) ((x : Int) / 2 ^ n) = (rotr n x : Int) := by
  have e1 : (x : Int) * 2 ^ (32 - n) % 4294967296 = ((x * 2 ^ (32 - n) % 4294967296 : Nat) : Int) := by simp
  have e2 : (x : Int) / 2 ^ n = ((x / 2 ^ n : Nat) : Int) := by simp
  rw [e1, e2, or32 _ _ (Nat.mod_lt _ (by decide)) (Nat.lt_of_le_of_lt (Nat.div_le_self _ _) hx)]
  rfl
set_option maxHeartbeats 1000000 in
theorem kRight_any (x n : Nat) (w : World) (hx : x < 4294967296) (hn : 1 ≤ n) (hn2 : n ≤ 31) : Calls Tryd.prog 42 #[.int .u32 (x : Int), .int .i64 (n : Int)] w fun e w' => e = .returned (.int .u32 (rotr n x : Int)) ∧ w' = w := by
  have hm : Calls Tryd.prog 45 #[.int .u32 (x : Int), .int .i64 (-(n : Int))] w fun e w' => e = .returned (.int .u32 (rotr n x : Int)) ∧ w' = w := by
    have hns := neg_shift n hn hn2
    have hr := rotr_eq x n hx
    obtain ⟨s, hs⟩ : ∃ s, 32 - n = s := ⟨_, rfl⟩
    rw [hs] at hns hr
    have es : (32 : Int) - (s : Int) = (n : Int) := by omega
    have hs1 : s < 32 := by omega
    generalize rotr n x = R at *
    go_enter Tryd.func45, Tryd.ntmps45
    go_wp2_with fail
    go_ret
    exact ⟨rfl, rfl⟩
  go_enter Tryd.func42, Tryd.ntmps42
  go_wp2_with fail
  refine hm.mono ?_
  rintro e w1 ⟨rfl, rfl⟩
  go_wp2_with fail
  go_ret
  exact ⟨rfl, rfl⟩
set_option maxHeartbeats 1000000 in
theorem kSmallA_any (x : Nat) (w : World) (hx : x < 4294967296) : Calls Tryd.prog 41 #[.int .u32 (x : Int)] w fun e w' => e = .returned (.int .u32 (sgA x : Int)) ∧ w' = w := by
  have h1 := kRight_any x 7 w hx (by omega) (by omega)
  have h2 := kRight_any x 18 w hx (by omega) (by omega)
  rw [show ((7 : Nat) : Int) = 7 from rfl] at h1
  rw [show ((18 : Nat) : Int) = 18 from rfl] at h2
  have b3 : x / 8 < 4294967296 := by omega
  have k3 : (x : Int) / 8 = ((x / 8 : Nat) : Int) := by omega
  have b1 := rotr_lt 7 x hx
  have b2 := rotr_lt 18 x hx
  have e1 := xor32 (rotr 7 x) (rotr 18 x) b1 b2
  have e2 := xor32 (rotr 7 x ^^^ rotr 18 x) (x / 8) (xor_lt32 b1 b2) b3
  have HE : Hid (sgA x = rotr 7 x ^^^ rotr 18 x ^^^ x / 8) := rfl
  generalize rotr 7 x ^^^ rotr 18 x ^^^ x / 8 = X at *
  generalize rotr 7 x ^^^ rotr 18 x = Y at *
  generalize rotr 7 x = R1 at *
  generalize rotr 18 x = R2 at *
  generalize x / 8 = R3 at *
  clear b1 b2 b3
  go_enter Tryd.func41, Tryd.ntmps41
  go_wp2_with fail
  refine h1.mono ?_
  rintro e w1 ⟨rfl, rfl⟩
  go_wp2_with fail
  refine h2.mono ?_
  rintro e w2 ⟨rfl, rfl⟩
  go_wp2_with fail
  go_ret
  rw [HE.out]
  exact ⟨rfl, rfl⟩
set_option maxHeartbeats 1000000 in
theorem kSmallB_any (x : Nat) (w : World) (hx : x < 4294967296) : Calls Tryd.prog 40 #[.int .u32 (x : Int)] w fun e w' => e = .returned (.int .u32 (sgB x : Int)) ∧ w' = w := by
  have h1 := kRight_any x 17 w hx (by omega) (by omega)
  have h2 := kRight_any x 19 w hx (by omega) (by omega)
  rw [show ((17 : Nat) : Int) = 17 from rfl] at h1
  rw [show ((19 : Nat) : Int) = 19 from rfl] at h2
  have b3 : x / 1024 < 4294967296 := by omega
  have k3 : (x : Int) / 1024 = ((x / 1024 : Nat) : Int) := by omega
  have b1 := rotr_lt 17 x hx
  have b2 := rotr_lt 19 x hx
  have e1 := xor32 (rotr 17 x) (rotr 19 x) b1 b2
  have e2 := xor32 (rotr 17 x ^^^ rotr 19 x) (x / 1024) (xor_lt32 b1 b2) b3
  have HE : Hid (sgB x = rotr 17 x ^^^ rotr 19 x ^^^ x / 1024) := rfl
  generalize rotr 17 x ^^^ rotr 19 x ^^^ x / 1024 = X at *
  generalize rotr 17 x ^^^ rotr 19 x = Y at *
  generalize rotr 17 x = R1 at *
  generalize rotr 19 x = R2 at *
  generalize x / 1024 = R3 at *
  clear b1 b2 b3
  go_enter Tryd.func40, Tryd.ntmps40
  go_wp2_with fail
  refine h1.mono ?_
  rintro e w1 ⟨rfl, rfl⟩
  go_wp2_with fail
  refine h2.mono ?_
  rintro e w2 ⟨rfl, rfl⟩
  go_wp2_with fail
  go_ret
  rw [HE.out]
  exact ⟨rfl, rfl⟩
set_option maxHeartbeats 1000000 in
theorem kBigA_any (x : Nat) (w : World) (hx : x < 4294967296) : Calls Tryd.prog 36 #[.int .u32 (x : Int)] w fun e w' => e = .returned (.int .u32 (bgA x : Int)) ∧ w' = w := by
  have h1 := kRight_any x 2 w hx (by omega) (by omega)
  have h2 := kRight_any x 13 w hx (by omega) (by omega)
  rw [show ((2 : Nat) : Int) = 2 from rfl] at h1
  rw [show ((13 : Nat) : Int) = 13 from rfl] at h2
  have h3 := kRight_any x 22 w hx (by omega) (by omega)
  rw [show ((22 : Nat) : Int) = 22 from rfl] at h3
  have b3 := rotr_lt 22 x hx
  have b1 := rotr_lt 2 x hx
  have b2 := rotr_lt 13 x hx
  have e1 := xor32 (rotr 2 x) (rotr 13 x) b1 b2
  have e2 := xor32 (rotr 2 x ^^^ rotr 13 x) (rotr 22 x) (xor_lt32 b1 b2) b3
  have HE : Hid (bgA x = rotr 2 x ^^^ rotr 13 x ^^^ rotr 22 x) := rfl
  generalize rotr 2 x ^^^ rotr 13 x ^^^ rotr 22 x = X at *
  generalize rotr 2 x ^^^ rotr 13 x = Y at *
  generalize rotr 2 x = R1 at *
  generalize rotr 13 x = R2 at *
  generalize rotr 22 x = R3 at *
  clear b1 b2 b3
  go_enter Tryd.func36, Tryd.ntmps36
  go_wp2_with fail
  refine h1.mono ?_
  rintro e w1 ⟨rfl, rfl⟩
  go_wp2_with fail
  refine h2.mono ?_
  rintro e w2 ⟨rfl, rfl⟩
  go_wp2_with fail
  refine h3.mono ?_
  rintro e w3 ⟨rfl, rfl⟩
  go_wp2_with fail
  go_ret
  rw [HE.out]
  exact ⟨rfl, rfl⟩
set_option maxHeartbeats 1000000 in
theorem kBigB_any (x : Nat) (w : World) (hx : x < 4294967296) : Calls Tryd.prog 34 #[.int .u32 (x : Int)] w fun e w' => e = .returned (.int .u32 (bgB x : Int)) ∧ w' = w := by
  have h1 := kRight_any x 6 w hx (by omega) (by omega)
  have h2 := kRight_any x 11 w hx (by omega) (by omega)
  rw [show ((6 : Nat) : Int) = 6 from rfl] at h1
  rw [show ((11 : Nat) : Int) = 11 from rfl] at h2
  have h3 := kRight_any x 25 w hx (by omega) (by omega)
  rw [show ((25 : Nat) : Int) = 25 from rfl] at h3
  have b3 := rotr_lt 25 x hx
  have b1 := rotr_lt 6 x hx
  have b2 := rotr_lt 11 x hx
  have e1 := xor32 (rotr 6 x) (rotr 11 x) b1 b2
  have e2 := xor32 (rotr 6 x ^^^ rotr 11 x) (rotr 25 x) (xor_lt32 b1 b2) b3
  have HE : Hid (bgB x = rotr 6 x ^^^ rotr 11 x ^^^ rotr 25 x) := rfl
  generalize rotr 6 x ^^^ rotr 11 x ^^^ rotr 25 x = X at *
  generalize rotr 6 x ^^^ rotr 11 x = Y at *
  generalize rotr 6 x = R1 at *
  generalize rotr 11 x = R2 at *
  generalize rotr 25 x = R3 at *
  clear b1 b2 b3
  go_enter Tryd.func34, Tryd.ntmps34
  go_wp2_with fail
  refine h1.mono ?_
  rintro e w1 ⟨rfl, rfl⟩
  go_wp2_with fail
  refine h2.mono ?_
  rintro e w2 ⟨rfl, rfl⟩
  go_wp2_with fail
  refine h3.mono ?_
  rintro e w3 ⟨rfl, rfl⟩
  go_wp2_with fail
  go_ret
  rw [HE.out]
  exact ⟨rfl, rfl⟩
theorem xor_all (n : Nat) (h : n < 4294967296) : 4294967295 ^^^ n = 4294967295 - n := by
  apply Nat.eq_of_testBit_eq
  intro i
  have e1 : (4294967295 : Nat) = 2 ^ 32 - 1 := rfl
  have e2 : 4294967295 - n = 2 ^ 32 - (n + 1) := by omega
  rw [Nat.testBit_xor, e2, Nat.testBit_two_pow_sub_succ (by omega), e1, Nat.testBit_two_pow_sub_one]
  by_cases hi : i < 32
  · simp [hi]
  · have : n.testBit i = false := Nat.testBit_lt_two_pow (Nat.lt_of_lt_of_le (show n < 2 ^ 32 by omega) (Nat.pow_le_pow_right (by omega) (by omega)))
    simp [hi, this]
theorem not32 (x : Nat) (h : x < 4294967296) : bits .xor .u32 IntKind.u32.max (x : Int) = ((4294967295 - x : Nat) : Int) := by
  have e : IntKind.u32.max = ((4294967295 : Nat) : Int) := by decide +kernel
  rw [e, xor32 _ _ (by omega) h, xor_all x h]
set_option maxHeartbeats 1000000 in
theorem kChoice_any (x y z : Nat) (w : World) (hx : x < 4294967296) (hy : y < 4294967296) (hz : z < 4294967296) : Calls Tryd.prog 35 #[.int .u32 (x : Int), .int .u32 (y : Int), .int .u32 (z : Int)] w fun e w' => e = .returned (.int .u32 (chooN x y z : Int)) ∧ w' = w := by
  have e1 := and32 x y hx hy
  have e2 := and32 (4294967295 - x) z (by omega) hz
  have e3 := xor32 (x &&& y) ((4294967295 - x) &&& z) (and_lt32 hy) (and_lt32 hz)
  have HE : Hid (chooN x y z = (x &&& y) ^^^ ((4294967295 - x) &&& z)) := rfl
  generalize (x &&& y) ^^^ ((4294967295 - x) &&& z) = X at *
  generalize x &&& y = A at *
  generalize (4294967295 - x) &&& z = B at *
  obtain ⟨nx, hnx⟩ : ∃ nx, 4294967295 - x = nx := ⟨_, rfl⟩
  have enx := not32 x hx
  rw [hnx] at e2 enx
  clear hnx
  go_enter Tryd.func35, Tryd.ntmps35
  go_wp2_with fail
  go_ret
  rw [HE.out]
  exact ⟨rfl, rfl⟩
set_option maxHeartbeats 1000000 in
theorem kMajority_any (x y z : Nat) (w : World) (hx : x < 4294967296) (hy : y < 4294967296) (hz : z < 4294967296) : Calls Tryd.prog 37 #[.int .u32 (x : Int), .int .u32 (y : Int), .int .u32 (z : Int)] w fun e w' => e = .returned (.int .u32 (majN x y z : Int)) ∧ w' = w := by
  have e1 := and32 x y hx hy
  have e2 := and32 x z hx hz
  have e3 := and32 y z hy hz
  have e4 := xor32 (x &&& y) (x &&& z) (and_lt32 hy) (and_lt32 hz)
  have e5 := xor32 ((x &&& y) ^^^ (x &&& z)) (y &&& z) (xor_lt32 (and_lt32 hy) (and_lt32 hz)) (and_lt32 hz)
  have HE : Hid (majN x y z = (x &&& y) ^^^ (x &&& z) ^^^ (y &&& z)) := rfl
  generalize (x &&& y) ^^^ (x &&& z) ^^^ (y &&& z) = X at *
  generalize (x &&& y) ^^^ (x &&& z) = Y at *
  generalize x &&& y = A at *
  generalize x &&& z = B at *
  generalize y &&& z = C at *
  go_enter Tryd.func37, Tryd.ntmps37
  go_wp2_with fail
  go_ret
  rw [HE.out]
  exact ⟨rfl, rfl⟩
end Go.Proofs.YtgehgcnaoapbbaaDoor
