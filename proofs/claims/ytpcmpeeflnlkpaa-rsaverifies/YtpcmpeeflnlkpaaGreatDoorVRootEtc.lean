/-
  The document's shift, rot, low, root.
  The document's words, reckoned.
  The document's primes and Words.
-/
import Derived.Test.YtpcmpeeflnlkpaaGreatDoorVBelow
import Derived.Test.YtpcmpeeflnlkpaaGreatDoorKPlainEtc
namespace Go.Proofs.YtpcmpeeflnlkpaaGreatDoor
open Go.RowKit Ch
set_option maxRecDepth 100000

set_option maxHeartbeats 1000000 in
theorem vShift_any (n : Nat) (w : World) (hn : n ≤ 40) : Calls Tryz.prog 89 #[.int .i64 (n : Int)] w fun e w' => e = .returned (.int .u64 ((2 ^ n : Nat) : Int)) ∧ w' = w := by
  go_enter Tryz.func89, Tryz.ntmps89
  go_wp2_with fail
  go_loopw [3, 4] (fun u t wr => ∃ i X : Nat, i ≤ n ∧ t = .int .i64 (i : Int) ∧ u = .int .u64 (X : Int) ∧ Hid (X = 2 ^ i) ∧ wr = w) (fun _ t _ => n - (intOf t).toNat)
  case atStart => exact ⟨0, 1, by omega, rfl, rfl, rfl, rfl⟩
  case round =>
    obtain ⟨i, X, hi, rfl, rfl, hX, rfl⟩ := hrel
    by_cases hlt : i < n
    · have hlt2 : (i : Int) < (n : Int) := by omega
      have hb : X ≤ 2 ^ 40 := by rw [hX.out]; exact Nat.pow_le_pow_right (by decide) (by omega)
      obtain ⟨Y, hY⟩ : ∃ Y, X * 2 = Y := ⟨_, rfl⟩
      have e1 : IntKind.u64.wrap ((X : Int) * 2) = (Y : Int) := by rw [wrap_u64]; omega
      have HY := show Hid (Y = 2 ^ (i + 1)) from by unfold Hid; rw [← hY, hX.out, Nat.pow_succ]
      clear hX hY
      go_wp2_with fail
      go_roundw
      case rel => exact ⟨i + 1, Y, by omega, by go_num, rfl, HY.out, trivial⟩
      case measure => simp [intOf]; omega
    · have hlt2 : ¬ (i : Int) < (n : Int) := by omega
      obtain rfl : i = n := by omega
      go_wp2_with fail
      go_ret
      exact ⟨by rw [hX.out]; rfl, rfl⟩
/-- Rotated by one so many times. -/
def rotI (x : Nat) : Nat → Nat
  | 0 => x
  | n + 1 => rotI x n / 2 + rotI x n % 2 * 2147483648
theorem rotI_lt {x : Nat} (h : x < 4294967296) : ∀ n, rotI x n < 4294967296
  | 0 => h
  | n + 1 => by have := rotI_lt h n; rw [rotI]; omega
set_option maxHeartbeats 1000000 in
theorem vRot_raw (x n : Nat) (w : World) (hx : x < 4294967296) (hn : n ≤ 1000) : Calls Tryz.prog 32 #[.int .u32 (x : Int), .int .i64 (n : Int)] w fun e w' => e = .returned (.int .u32 (rotI x n : Int)) ∧ w' = w := by
  go_enter Tryz.func32, Tryz.ntmps32
  go_wp2_with fail
  go_loopw [0, 5] (fun u t wr => ∃ i : Nat, i ≤ n ∧ t = .int .i64 (i : Int) ∧ u = .int .u32 (rotI x i : Int) ∧ wr = w) (fun _ t _ => n - (intOf t).toNat)
  case atStart => exact ⟨0, by omega, rfl, rfl, rfl⟩
  case round =>
    obtain ⟨i, hi, rfl, rfl, rfl⟩ := hrel
    by_cases hlt : i < n
    · have hlt2 : (i : Int) < (n : Int) := by omega
      have hX := rotI_lt hx i
      have HS := show Hid (rotI x (i + 1) = rotI x i / 2 + rotI x i % 2 * 2147483648) from rfl
      generalize rotI x i = X at *
      obtain ⟨q, hq⟩ : ∃ q, X / 2 = q := ⟨_, rfl⟩
      obtain ⟨r, hr⟩ : ∃ r, X % 2 = r := ⟨_, rfl⟩
      obtain ⟨m, hm⟩ : ∃ m, r * 2147483648 = m := ⟨_, rfl⟩
      obtain ⟨y, hy⟩ : ∃ y, q + m = y := ⟨_, rfl⟩
      have e1 : (X : Int).tdiv 2 = (q : Int) := by rw [← hq, Int.tdiv_eq_ediv_of_nonneg (by omega)]; omega
      have e2 : (X : Int).tmod 2 = (r : Int) := by rw [← hr, Int.tmod_eq_emod_of_nonneg (by omega)]; omega
      have e3 : IntKind.u32.wrap ((r : Int) * 2147483648) = (m : Int) := by rw [IntKind.wrap_u32]; omega
      have e4 : IntKind.u32.wrap ((q : Int) + (m : Int)) = (y : Int) := by rw [IntKind.wrap_u32]; omega
      have hq2 : q < 4294967296 := by omega
      have hr2 : r < 2 := by omega
      have HY := show Hid (y = rotI x (i + 1)) from by unfold Hid; rw [HS.out, hq, hr, hm, hy]
      clear hq hr hm hy HS
      go_wp2_with fail
      go_roundw
      case rel => exact ⟨i + 1, by omega, by go_num, by rw [HY.out], trivial⟩
      case measure => simp [intOf]; omega
    · have hlt2 : ¬ (i : Int) < (n : Int) := by omega
      obtain rfl : i = n := by omega
      go_wp2_with fail
      go_ret
      exact ⟨rfl, rfl⟩
theorem rotI_eq {x : Nat} (hx : x < 4294967296) : ∀ n, n ≤ 32 → rotI x n = x % 2 ^ n * 2 ^ (32 - n) + x / 2 ^ n
  | 0, _ => by simp [rotI, Nat.mod_one]
  | n + 1, h => by
    have ih := rotI_eq hx n (by omega)
    rw [rotI, ih]
    have e1 : 2 ^ (32 - n) = 2 * 2 ^ (32 - (n + 1)) := by rw [show 32 - n = (32 - (n + 1)) + 1 by omega, Nat.pow_succ, Nat.mul_comm]
    have e2 : x / 2 ^ (n + 1) = x / 2 ^ n / 2 := by rw [Nat.pow_succ, Nat.div_div_eq_div_mul]
    have e3 : x % 2 ^ (n + 1) = x % 2 ^ n + 2 ^ n * (x / 2 ^ n % 2) := by rw [Nat.pow_succ, Nat.mod_mul]
    have e4 : (2147483648 : Nat) = 2 ^ n * 2 ^ (32 - (n + 1)) := by rw [← Nat.pow_add, show n + (32 - (n + 1)) = 31 by omega]
    rw [e1, e2, e3, e4]
    generalize 2 ^ (32 - (n + 1)) = P
    generalize x % 2 ^ n = A
    generalize x / 2 ^ n = B
    generalize 2 ^ n = C
    have h1 : A * (2 * P) + B = 2 * (A * P) + B := by rw [Nat.mul_left_comm]
    rw [h1, Nat.add_mul]
    have h2 : (2 * (A * P) + B) / 2 = A * P + B / 2 := by omega
    have h3 : (2 * (A * P) + B) % 2 = B % 2 := by omega
    rw [h2, h3, Nat.mul_comm C (B % 2), Nat.mul_assoc]
    omega
theorem rotI_rotr {x : Nat} (hx : x < 4294967296) {n : Nat} (h : n ≤ 32) : rotI x n = rotr n x := by
  rw [rotI_eq hx n h]
  unfold rotr
  have e1 : x * 2 ^ (32 - n) % 4294967296 = 2 ^ (32 - n) * (x % 2 ^ n) := by
    have : (4294967296 : Nat) = 2 ^ n * 2 ^ (32 - n) := by rw [← Nat.pow_add, show n + (32 - n) = 32 by omega]
    rw [this, Nat.mul_mod_mul_right, Nat.mul_comm]
  have e2 : x / 2 ^ n < 2 ^ (32 - n) := by
    rw [Nat.div_lt_iff_lt_mul (Nat.two_pow_pos n), ← Nat.pow_add, show 32 - n + n = 32 by omega]
    exact hx
  rw [e1, ← Nat.two_pow_add_eq_or_of_lt e2, Nat.mul_comm]
theorem vRot_any (x n : Nat) (w : World) (hx : x < 4294967296) (hn : n ≤ 32) : Calls Tryz.prog 32 #[.int .u32 (x : Int), .int .i64 (n : Int)] w fun e w' => e = .returned (.int .u32 (rotr n x : Int)) ∧ w' = w := by
  rw [← rotI_rotr hx hn]
  exact vRot_raw x n w hx (by omega)
set_option maxHeartbeats 1000000 in
theorem vLow_any (x n : Nat) (w : World) (hx : x < 4294967296) (hn : n ≤ 32) : Calls Tryz.prog 33 #[.int .u32 (x : Int), .int .i64 (n : Int)] w fun e w' => e = .returned (.int .u32 ((x / 2 ^ n : Nat) : Int)) ∧ w' = w := by
  go_enter Tryz.func33, Tryz.ntmps33
  go_wp2_with fail
  go_loopw [0, 5] (fun u t wr => ∃ i X : Nat, i ≤ n ∧ t = .int .i64 (i : Int) ∧ u = .int .u32 (X : Int) ∧ X < 4294967296 ∧ Hid (X = x / 2 ^ i) ∧ wr = w) (fun _ t _ => n - (intOf t).toNat)
  case atStart => exact ⟨0, x, by omega, rfl, rfl, hx, by unfold Hid; rw [Nat.pow_zero, Nat.div_one], rfl⟩
  case round =>
    obtain ⟨i, X, hi, rfl, rfl, hX, hXe, rfl⟩ := hrel
    by_cases hlt : i < n
    · have hlt2 : (i : Int) < (n : Int) := by omega
      obtain ⟨q, hq⟩ : ∃ q, X / 2 = q := ⟨_, rfl⟩
      have e1 : (X : Int).tdiv 2 = (q : Int) := by rw [← hq, Int.tdiv_eq_ediv_of_nonneg (by omega)]; omega
      have hq2 : q < 4294967296 := by omega
      have HY := show Hid (q = x / 2 ^ (i + 1)) from by unfold Hid; rw [← hq, hXe.out, Nat.pow_succ, Nat.div_div_eq_div_mul]
      clear hq hXe
      go_wp2_with fail
      go_roundw
      case rel => exact ⟨i + 1, q, by omega, by go_num, rfl, hq2, HY.out, trivial⟩
      case measure => simp [intOf]; omega
    · have hlt2 : ¬ (i : Int) < (n : Int) := by omega
      obtain rfl : i = n := by omega
      go_wp2_with fail
      go_ret
      exact ⟨by rw [hXe.out]; rfl, rfl⟩
/-- The root's bits, the first n of 37. -/
def rootI (p : Nat) (cube : Bool) : Nat → Nat
  | 0 => 0
  | n + 1 => if belowN (rootI p cube n + 2 ^ (36 - n)) p cube then rootI p cube n + 2 ^ (36 - n) else rootI p cube n
def rootN (p : Nat) (cube : Bool) : Nat := rootI p cube 37 % 4294967296
theorem rootI_lt (p : Nat) (cube : Bool) : ∀ n, n ≤ 37 → rootI p cube n + 2 ^ (37 - n) ≤ 2 ^ 37
  | 0, _ => by simp [rootI]
  | n + 1, h => by
    have ih := rootI_lt p cube n (by omega)
    have e : 2 ^ (37 - n) = 2 ^ (37 - (n + 1)) + 2 ^ (37 - (n + 1)) := by rw [show 37 - n = (37 - (n + 1)) + 1 by omega, Nat.pow_succ, Nat.mul_two]
    have e2 : 36 - n = 37 - (n + 1) := by omega
    rw [rootI, e2]
    generalize 2 ^ (37 - (n + 1)) = A at *
    rw [e] at ih
    split <;> omega
set_option maxHeartbeats 2000000 in
theorem vRoot_any (p : Nat) (cube : Bool) (w : World) (hp : p < 18446744073709551616) :
    Calls Tryz.prog 61 #[.int .u64 (p : Int), .bool cube] w fun e w' => e = .returned (.int .u32 (rootN p cube : Int)) ∧ Below w.heap.size w w' := by
  go_enter Tryz.func61, Tryz.ntmps61
  go_wp2_with fail
  go_loopw [5, 6] (fun u t wr => ∃ (i X : Nat) (z : Int), i ≤ 37 ∧ Hid (z = 36 - (i : Int)) ∧ t = .int .i64 z ∧ u = .int .u64 (X : Int) ∧ Hid (X = rootI p cube i) ∧ Below w.heap.size w wr) (fun _ t _ => (intOf t + 1).toNat)
  case atStart => exact ⟨0, 0, 36, by omega, by unfold Hid; omega, rfl, rfl, rfl, Below.refl _ _⟩
  case round =>
    obtain ⟨i, X, z, hi, hz, rfl, rfl, hX, hb⟩ := hrel
    have hlt37 := rootI_lt p cube i hi
    rw [← hX.out] at hlt37
    by_cases hlt : i < 37
    · obtain ⟨b, hbe⟩ : ∃ b : Nat, b = 36 - i := ⟨_, rfl⟩
      have hzb : z = (b : Int) := by have := hz.out; omega
      subst hzb
      have h36 : b ≤ 36 := by omega
      have hge : (0 : Int) ≤ (b : Int) := by omega
      have hpw : 2 ^ b < 2 ^ 37 := Nat.pow_lt_pow_right (by decide) (by omega)
      obtain ⟨T, hT⟩ : ∃ T, 2 ^ b = T := ⟨_, rfl⟩
      obtain ⟨Y, hY⟩ : ∃ Y, X + T = Y := ⟨_, rfl⟩
      have hXl : X < 2 ^ 37 := by have := Nat.two_pow_pos (37 - i); omega
      rw [hT] at hpw
      have e1 : IntKind.u64.wrap ((X : Int) + (T : Int)) = (Y : Int) := by rw [wrap_u64]; omega
      have hYl : Y < 18446744073709551616 := by omega
      have HS := show Hid (rootI p cube (i + 1) = if belowN Y p cube then Y else X) from by unfold Hid; rw [rootI, ← hX.out, ← hbe, hT, hY]
      have hsh := vShift_any b wr (by omega)
      rw [hT] at hsh
      have HBI := show Hid (b = 36 - i) from hbe
      clear hX hT hY hbe hlt37 hpw hz
      go_wp2_with fail
      refine hsh.mono ?_
      rintro e w1 ⟨rfl, rfl⟩
      obtain ⟨R, hR⟩ : ∃ R, belowN Y p cube = R := ⟨_, rfl⟩
      have hbl := vBelow_any Y p cube w1 hYl hp
      rw [hR] at hbl
      rw [hR] at HS
      clear hR hsh
      go_wp2_with fail
      refine hbl.mono ?_
      rintro e w2 ⟨rfl, hb2⟩
      have hb3 := hb.trans (hb2.mono hb.size)
      clear hbl hb2
      cases R
      · have hq := HS.out
        simp only [Bool.false_eq_true, if_false] at hq
        have HQ := show Hid (X = rootI p cube (i + 1)) from hq.symm
        clear hq HS
        go_wp2_with fail
        go_roundw
        case rel => exact ⟨i + 1, X, (b : Int) - 1, by omega, by unfold Hid; have := HBI.out; omega, by go_num, rfl, HQ.out, hb3⟩
        case measure => first | (simp [intOf]; done) | (simp [intOf]; omega)
      · have hq := HS.out
        simp only [if_true] at hq
        have HQ := show Hid (Y = rootI p cube (i + 1)) from hq.symm
        clear hq HS
        go_wp2_with fail
        go_roundw
        case rel => exact ⟨i + 1, Y, (b : Int) - 1, by omega, by unfold Hid; have := HBI.out; omega, by go_num, rfl, HQ.out, hb3⟩
        case measure => first | (simp [intOf]; done) | (simp [intOf]; omega)
    · obtain rfl : i = 37 := by omega
      have hz1 : z = -1 := by have := hz.out; omega
      clear hz
      subst hz1
      have hneg : ¬ (0 : Int) ≤ -1 := by omega
      obtain ⟨m, hm⟩ : ∃ m, X % 4294967296 = m := ⟨_, rfl⟩
      have e1 : (X : Int).tmod 4294967296 = (m : Int) := by rw [← hm, Int.tmod_eq_emod_of_nonneg (by omega)]; omega
      have hm2 : m < 4294967296 := by omega
      have HR := show Hid (rootN p cube = m) from by unfold Hid rootN; rw [← hX.out, hm]
      have hXl : X < 2 ^ 37 := by have := Nat.two_pow_pos (37 - 37); omega
      have hw32 : IntKind.u32.wrap (m : Int) = (m : Int) := by rw [IntKind.wrap_u32]; omega
      clear hX hm hlt37
      go_wp2_with fail
      go_ret
      exact ⟨by rw [HR.out]; rfl, hb⟩
end Go.Proofs.YtpcmpeeflnlkpaaGreatDoor

namespace Go.Proofs.YtpcmpeeflnlkpaaGreatDoor
open Go.RowKit Ch
set_option maxRecDepth 100000

/-- The primes below j + 2. -/
def prK : Nat → List Nat
  | 0 => []
  | j + 1 => if (prK j).all (fun d => (j + 2) % d != 0) then prK j ++ [j + 2] else prK j
theorem prK_310 : (prK 310).length = 64 := by decide +kernel
theorem prK_309 : (prK 309).length = 63 := by decide +kernel
theorem prK_mono (i j : Nat) (h : i ≤ j) : (prK i).length ≤ (prK j).length := by
  induction j with
  | zero => rw [show i = 0 by omega]; exact Nat.le_refl _
  | succ j ih =>
    by_cases hij : i = j + 1
    · rw [hij]; exact Nat.le_refl _
    · have := ih (by omega)
      have h2 : (prK j).length ≤ (prK (j + 1)).length := by
        rw [prK]
        split
        · rw [List.length_append]; omega
        · exact Nat.le_refl _
      omega
theorem prK_pos (j : Nat) : ∀ d ∈ prK j, 2 ≤ d ∧ d < j + 2 := by
  induction j with
  | zero => intro d hd; cases hd
  | succ j ih =>
    intro d hd
    rw [prK] at hd
    split at hd
    · rcases List.mem_append.1 hd with h | h
      · have := ih d h; omega
      · simp at h; omega
    · have := ih d hd; omega
end Go.Proofs.YtpcmpeeflnlkpaaGreatDoor

namespace Go.Proofs.YtpcmpeeflnlkpaaGreatDoor
open Go.RowKit Ch
set_option maxRecDepth 100000

def R32 : KR := ⟨.u32, 63, 37, 4, Tryz.underlying37, by kernel_rfl, by decide⟩
def okN (j i : Nat) : Bool := ((prK j).take i).all (fun d => (j + 2) % d != 0)
theorem okN_succ {j i d : Nat} (h : (prK j)[i]? = some d) : okN j (i + 1) = (okN j i && (j + 2) % d != 0) := by
  unfold okN
  rw [List.take_add_one, h, List.all_append]
  simp
theorem prK_succ (j : Nat) : prK (j + 1) = if okN j (prK j).length then prK j ++ [j + 2] else prK j := by
  unfold okN
  rw [prK, List.take_length]
set_option maxHeartbeats 2000000 in
theorem vPrimes_64 (w : World) :
    Calls Tryz.prog 60 #[.int .i64 64] w fun e w' => (∃ v, e = .returned v ∧ w'.ownsRow w.heap.size 62 1 v (prK 310).length (kc .u64 (prK 310))) ∧ Below w.heap.size w w' := by
  go_enter Tryz.func60, Tryz.ntmps60
  go_wp2_with fail
  go_loopw [3, 4] (fun v t wr => ∃ (j n p c : Nat) (x : Option Addr), j ≤ 310 ∧ t = .int .u64 (p : Int) ∧ Hid (p = j + 2 ∧ n = (prK j).length) ∧ p ≤ 312 ∧ n ≤ 64 ∧ v = .slice x n c ∧ Hid (wr.ownsRow w.heap.size 62 1 (.slice x n c) (prK j).length (kc .u64 (prK j))) ∧ Below w.heap.size w wr) (fun _ t _ => 312 - (intOf t).toNat)
  case atStart => exact ⟨0, 0, 2, 0, none, by omega, rfl, ⟨rfl, rfl⟩, by omega, by omega, rfl, own_nil _ _ _, Below.refl _ _⟩
  case round =>
    obtain ⟨j, n, p, c, x, hj, rfl, hpn, hp, hn, rfl, ho, hb⟩ := hrel
    by_cases hlt : n < 64
    · have hlt2 : (n : Int) < 64 := by omega
      have hj309 : j ≤ 309 := by
        apply Classical.byContradiction
        intro h
        have h1 := prK_mono 310 j (by omega)
        have h2 := prK_310
        have h3 := hpn.out.2
        omega
      go_wp2_with fail
      go_loopw [5, 6] (fun u t wq => ∃ (i : Nat) (R : Bool), i ≤ n ∧ t = .int .i64 (i : Int) ∧ u = .bool R ∧ Hid (R = okN j i) ∧ wq = wr) (fun _ t _ => n - (intOf t).toNat)
      case atStart => exact ⟨0, true, by omega, rfl, rfl, rfl, rfl⟩
      case round =>
        obtain ⟨i, R, hi, rfl, rfl, hR, rfl⟩ := hrel
        by_cases hlti : i < n
        · have hlti2 : (i : Int) < (n : Int) := by omega
          have hds : (prK j)[i]? = some (atN (prK j) i) := atN_some (by have := hpn.out.2; omega)
          obtain ⟨d, hd⟩ : ∃ d, atN (prK j) i = d := ⟨_, rfl⟩
          rw [hd] at hds
          have hd2 := prK_pos j d (List.mem_of_getElem? hds)
          have hd3 : ¬ (d : Int) = 0 := by omega
          have HS := show Hid (okN j (i + 1) = (R && (j + 2) % d != 0)) from by unfold Hid; rw [okN_succ hds, hR.out]
          obtain ⟨x1, ba, oa, rfl, hal, gA⟩ := IsN.cellAt (own_n ho.out) hds
          clear x1 hds hd
          cases R
          · have HQ := show Hid (false = okN j (i + 1)) from by unfold Hid; rw [HS.out]; rfl
            clear HS hR
            go_wp2_with fail
            go_roundw
            case rel => exact ⟨i + 1, false, by omega, by go_num, rfl, HQ.out, trivial⟩
            case measure => simp [intOf]; omega
          · obtain ⟨m, hm⟩ : ∃ m, p % d = m := ⟨_, rfl⟩
            have e1 : (p : Int).tmod (d : Int) = (m : Int) := by rw [← hm, Int.tmod_eq_emod_of_nonneg (by omega)]; omega
            obtain ⟨B, hB⟩ : ∃ B, (m != 0) = B := ⟨_, rfl⟩
            have e2 : ((m : Int) != 0) = B := by
              rw [← hB]
              by_cases h : m = 0
              · subst h; rfl
              · have : ¬ (m : Int) = 0 := by omega
                rw [bne_iff_ne.2 this, bne_iff_ne.2 h]
            have hm64 : m < 18446744073709551616 := by
              have := Nat.mod_le p d
              omega
            have HQ := show Hid (B = okN j (i + 1)) from by unfold Hid; rw [HS.out, ← hpn.out.1, hm, hB]; rfl
            clear HS hR hm hB
            go_wp2_with fail
            go_roundw
            case rel => exact ⟨i + 1, B, by omega, by go_num, rfl, HQ.out, trivial⟩
            case measure => simp [intOf]; omega
        · have hlti2 : ¬ (i : Int) < (n : Int) := by omega
          obtain rfl : i = n := by omega
          have HS := show Hid (prK (j + 1) = if R then prK j ++ [j + 2] else prK j) from by unfold Hid; rw [prK_succ, ← hpn.out.2, ← hR.out]
          have ep : IntKind.u64.wrap ((p : Int) + 1) = ((p + 1 : Nat) : Int) := by rw [wrap_u64]; omega
          obtain ⟨p1, hp1⟩ : ∃ p1, p + 1 = p1 := ⟨_, rfl⟩
          rw [hp1] at ep
          have HP := show Hid (p1 = j + 1 + 2) from by unfold Hid; have := hpn.out.1; omega
          have hp12 : p1 ≤ 312 := by have := hpn.out.1; omega
          have hpl : p1 = p + 1 := hp1.symm
          have HPL := show Hid (p1 = p + 1) from hpl
          clear hp1 hpl
          cases R
          · have hq := HS.out
            simp only [Bool.false_eq_true, if_false] at hq
            have HQ := show Hid (prK (j + 1) = prK j) from hq
            clear hq HS hR
            go_wp2_with fail
            go_roundw
            case rel => exact ⟨j + 1, i, p1, c, x, by omega, rfl, ⟨HP.out, by rw [HQ.out]; exact hpn.out.2⟩, hp12, by omega, rfl, by unfold Hid; rw [HQ.out]; exact ho.out, hb⟩
            case measure => simp [intOf]; have := HPL.out; omega
          · have hq := HS.out
            simp only [if_true] at hq
            have HQ := show Hid (prK j ++ [p] = prK (j + 1)) from by unfold Hid; rw [hq, hpn.out.1]
            clear hq HS hR
            have hon := ho.out
            have hlen : (prK j).length ≤ 1000000 := by have := hpn.out.2; omega
            have hz := hb.size
            go_wp2_with (at_builtin; go_must (refine wpList_append_n R64 rfl _ _ rfl w.heap.size _ _ rfl hon _ rfl p rfl _ HQ hlen hz hb ?_; intro v9 w9 ho9 hb9))
            obtain ⟨x9, c9, rfl⟩ := own_shape ho9
            go_roundw
            case rel => exact ⟨j + 1, (prK (j + 1)).length, p1, c9, x9, by omega, rfl, ⟨HP.out, rfl⟩, hp12, by rw [← HQ.out, List.length_append]; have := hpn.out.2; simp; omega, rfl, ho9, hb9⟩
            case measure => simp [intOf]; have := HPL.out; omega
    · have hlt2 : ¬ (n : Int) < 64 := by omega
      obtain rfl : j = 310 := by
        apply Classical.byContradiction
        intro h
        have h1 := prK_mono j 309 (by omega)
        have h2 := prK_309
        have h3 := hpn.out.2
        omega
      go_wp2_with fail
      go_ret
      exact ⟨⟨_, rfl, ho.out⟩, hb⟩
end Go.Proofs.YtpcmpeeflnlkpaaGreatDoor
