/-
  math/bits.Div64, walked.
-/
import Derived.Test.YtpcmpeeflnlkpaaDoorNShift
namespace Go.Proofs.YtpcmpeeflnlkpaaDoor
open Go.RowKit Ch
set_option maxRecDepth 100000

theorem bitLen_bounds : ∀ (y : Nat), y ≠ 0 → y < 2 ^ 64 → 1 ≤ Lib.bitLen y ∧ 2 ^ (Lib.bitLen y - 1) ≤ y ∧ y < 2 ^ Lib.bitLen y := by
  intro y
  induction y using Nat.strongRecOn with
  | _ y ih =>
    intro h0 h
    have e := Lib.bitLen_half y h0 h
    by_cases h1 : y = 1
    · subst h1
      decide
    · obtain ⟨i1, i2, i3⟩ := ih (y / 2) (by omega) (by omega) (by omega)
      rw [e]
      generalize Lib.bitLen (y / 2) = b at *
      refine ⟨by omega, ?_, ?_⟩
      · obtain ⟨c, rfl⟩ : ∃ c, b = c + 1 := ⟨b - 1, by omega⟩
        rw [show 1 + (c + 1) - 1 = c + 1 by omega, Nat.pow_succ]
        rw [show c + 1 - 1 = c by omega] at i2
        omega
      · rw [Nat.add_comm, Nat.pow_succ]
        omega
theorem norm_bounds {y : Nat} (h0 : y ≠ 0) (h : y < 18446744073709551616) : ∃ s : Nat, s ≤ 63 ∧ (64 : Int) - (Lib.bitLen y : Int) = (s : Int) ∧ 9223372036854775808 ≤ y * 2 ^ s ∧ y * 2 ^ s < 18446744073709551616 := by
  obtain ⟨i1, i2, i3⟩ := bitLen_bounds y h0 h
  have i4 := Lib.bitLen_le y 64 (Nat.le_refl _) h
  refine ⟨64 - Lib.bitLen y, by omega, by omega, ?_, ?_⟩
  · have := Nat.mul_le_mul_right (2 ^ (64 - Lib.bitLen y)) i2
    rw [← Nat.pow_add, show Lib.bitLen y - 1 + (64 - Lib.bitLen y) = 63 by omega] at this
    exact this
  · have := Nat.mul_lt_mul_of_pos_right i3 (show 0 < 2 ^ (64 - Lib.bitLen y) from Nat.pow_pos (by decide))
    rw [← Nat.pow_add, show Lib.bitLen y + (64 - Lib.bitLen y) = 64 by omega] at this
    exact this
set_option maxHeartbeats 4000000 in
theorem bDiv_big (hi lo y : Nat) (w : World) (hhi : hi < y) (hlo : lo < 18446744073709551616) (hy : y < 18446744073709551616) (h0 : hi ≠ 0) :
    Calls Tryd.prog 81 #[.int .u64 (hi : Int), .int .u64 (lo : Int), .int .u64 (y : Int)] w fun e w' => e = .returned (.tuple #[.int .u64 (((hi * 18446744073709551616 + lo) / y : Nat) : Int), .int .u64 (((hi * 18446744073709551616 + lo) % y : Nat) : Int)]) ∧ w' = w := by
  obtain ⟨QQ, hQQ⟩ : ∃ a, (hi * 18446744073709551616 + lo) / y = a := ⟨_, rfl⟩
  obtain ⟨rem, hrem⟩ : ∃ a, (hi * 18446744073709551616 + lo) % y = a := ⟨_, rfl⟩
  have HQR := show Hid ((hi * 18446744073709551616 + lo) / y = QQ ∧ (hi * 18446744073709551616 + lo) % y = rem) from ⟨hQQ, hrem⟩
  have hQQl : QQ < 18446744073709551616 := by
    rw [← hQQ, Nat.div_lt_iff_lt_mul (by omega)]
    have := Nat.mul_le_mul_right 18446744073709551616 (show hi + 1 ≤ y from hhi)
    rw [Nat.add_mul, Nat.one_mul, Nat.mul_comm y] at this
    omega
  rw [hQQ, hrem]
  clear hQQ hrem
  obtain ⟨s, hs63, hsI, hn1, hn2⟩ := norm_bounds (y := y) (by omega) hy
  have hLz := Tryd.bits_LeadingZeros64 (y : Int) w (by omega) (by omega)
  rw [Int.toNat_natCast, hsI] at hLz
  have c1 : ((y : Int) == 0) = false := by simp; omega
  have c2 : ¬ (y : Int) ≤ (hi : Int) := by omega
  have c3 : ((hi : Int) == 0) = false := by simp; omega
  have sw : IntKind.u64.wrap (s : Int) = (s : Int) := by rw [IntKind.wrap_u64]; omega
  have sl : (s : Int) ≤ 64 := by omega
  obtain ⟨yy, hyy⟩ : ∃ a, y * 2 ^ s = a := ⟨_, rfl⟩
  have hyyw := wrap_mul y s
  rw [hyy] at hn1 hn2 hyyw
  rw [Nat.mod_eq_of_lt hn2] at hyyw
  obtain ⟨y1, hy1⟩ : ∃ a, yy / 4294967296 = a := ⟨_, rfl⟩
  obtain ⟨y0, hy0⟩ : ∃ a, yy % 4294967296 = a := ⟨_, rfl⟩
  have hy1I : (yy : Int) / 4294967296 = (y1 : Int) := by omega
  have hy0I : bits .and .u64 (yy : Int) 4294967295 = (y0 : Int) := by rw [Mul64.maskN yy hn2, hy0]
  have hS : 2 ^ s * 2 ^ (64 - s) = 18446744073709551616 := pow_halves (by omega)
  have hS0 : 0 < 2 ^ s := Nat.pow_pos (by decide)
  have hS1 : 0 < 2 ^ (64 - s) := Nat.pow_pos (by decide)
  -- the dividend, doubled as often
  obtain ⟨hs, hhs⟩ : ∃ a, hi * 2 ^ s = a := ⟨_, rfl⟩
  have hhsl : hs + 2 ^ s ≤ yy := by
    rw [← hhs, ← hyy]
    have := Nat.mul_le_mul_right (2 ^ s) (show hi + 1 ≤ y from hhi)
    rw [Nat.add_mul, Nat.one_mul] at this
    exact this
  have hhsw := wrap_mul hi s
  rw [hhs, Nat.mod_eq_of_lt (by omega)] at hhsw
  obtain ⟨ls, hls⟩ : ∃ a, lo / 2 ^ (64 - s) = a := ⟨_, rfl⟩
  have hlsI : (lo : Int) / 2 ^ (64 - s) = (ls : Int) := by rw [← hls]; simp
  have hlsl : ls < 2 ^ s := by rw [← hls, Nat.div_lt_iff_lt_mul hS1, hS]; exact hlo
  obtain ⟨U, hU⟩ : ∃ a, hs + ls = a := ⟨_, rfl⟩
  have hUl : U < yy := by omega
  have hUI : bits .or .u64 (hs : Int) (ls : Int) = (U : Int) := by
    rw [bits_or_u64_nat hs ls (by omega) (by omega), ← hU, ← hhs, Nat.mul_comm, or_high rfl hlsl]
  obtain ⟨V, hV⟩ : ∃ a, lo * 2 ^ s % 18446744073709551616 = a := ⟨_, rfl⟩
  have hVw := wrap_mul lo s
  rw [hV] at hVw
  have hVl : V < 18446744073709551616 := by rw [← hV]; exact Nat.mod_lt _ (by decide)
  obtain ⟨u1, hu1⟩ : ∃ a, V / 4294967296 = a := ⟨_, rfl⟩
  obtain ⟨u0, hu0⟩ : ∃ a, V % 4294967296 = a := ⟨_, rfl⟩
  have hu1I : (V : Int) / 4294967296 = (u1 : Int) := by omega
  have hu0I : bits .and .u64 (V : Int) 4294967295 = (u0 : Int) := by rw [Mul64.maskN V hVl, hu0]
  have HUV := show Hid (U * 18446744073709551616 + (u1 * 4294967296 + u0) = (hi * 18446744073709551616 + lo) * 2 ^ s) from by
    have h1 : u1 * 4294967296 + u0 = V := by omega
    have h2 : lo * 2 ^ s = 18446744073709551616 * ls + V := by
      have h3 : lo * 2 ^ s / 18446744073709551616 = ls := by rw [← hS, ← hls, Nat.mul_comm (2 ^ s) (2 ^ (64 - s)), Nat.mul_div_mul_right _ _ hS0]
      rw [← hV, ← h3, Nat.div_add_mod]
    unfold Hid
    rw [h1, ← hU, Nat.add_mul hs ls, Nat.add_mul (hi * 18446744073709551616), h2, Nat.mul_right_comm, hhs, Nat.mul_comm ls, Nat.add_assoc]
  have HYY := show Hid (yy = y1 * 4294967296 + y0 ∧ yy = y * 2 ^ s) from ⟨by omega, hyy.symm⟩
  have y1l : 2147483648 ≤ y1 := by omega
  have y0l : y0 < 4294967296 := by omega
  have u1l : u1 < 4294967296 := by omega
  have u0l : u0 < 4294967296 := by omega
  obtain ⟨q, hq⟩ : ∃ a, U / y1 = a := ⟨_, rfl⟩
  obtain ⟨r, hr⟩ : ∃ a, U % y1 = a := ⟨_, rfl⟩
  obtain ⟨z, hz⟩ : ∃ a, q * y1 = a := ⟨_, rfl⟩
  have hqe : q * y1 + r = U := by rw [← hq, ← hr, Nat.mul_comm, Nat.div_add_mod]
  have hql : (U * 4294967296 + u1) / yy ≤ q := by rw [← hq]; exact half_start HYY.out.1 (by omega) u1l
  have hqb : q ≤ 4294967297 := by rw [← hq]; exact half_bound HYY.out.1 y1l y0l hUl
  have hrl : r < y1 := by rw [← hr]; exact Nat.mod_lt _ (by omega)
  have hqI : (U : Int) / (y1 : Int) = (q : Int) := by rw [← hq]; simp
  have hzI : (q : Int) * (y1 : Int) = (z : Int) := by rw [← hz]; simp
  have hzl : z ≤ U := by rw [← hz]; omega
  have hrI : (U : Int) - (z : Int) = (r : Int) := by rw [hz] at hqe; omega
  have wq : IntKind.u64.wrap (q : Int) = (q : Int) := by rw [IntKind.wrap_u64]; omega
  have wz : IntKind.u64.wrap (z : Int) = (z : Int) := by rw [IntKind.wrap_u64]; omega
  have wr0 : IntKind.u64.wrap (r : Int) = (r : Int) := by rw [IntKind.wrap_u64]; omega
  have hqU := hUl
  have hy1b : y1 < 4294967296 := by omega
  clear hq hr hz hhs hls hU hV hu1 hu0 hy1 hy0 hyy
  clear hsI
  go_enter Tryd.func81, Tryd.ntmps81
  go_wp2_with fail
  refine hLz.mono ?_
  rintro e w1 ⟨rfl, rfl⟩
  clear hLz
  go_wp2_with fail
  go_loopw [15, 16] (fun p v wv => ∃ qA rA : Nat, p = .int .u64 (qA : Int) ∧ v = .int .u64 (rA : Int) ∧ Hid (qA * y1 + rA = U ∧ (U * 4294967296 + u1) / yy ≤ qA) ∧ qA ≤ 4294967297 ∧ rA < 4294967296 ∧ wv = w1) (fun p _ _ => (intOf p).toNat)
  case atStart => exact ⟨_, _, rfl, rfl, ⟨hqe, hql⟩, hqb, by omega, rfl⟩
  case round =>
    obtain ⟨qA, rA, rfl, rfl, hqr, hqb, hrb, rfl⟩ := hrel
    have hqy : qA * y0 < 18446744073709551616 := by
      have := Nat.mul_le_mul (show qA ≤ 4294967297 from hqb) (show y0 ≤ 4294967295 by omega)
      omega
    obtain ⟨qy, hqye⟩ : ∃ a, qA * y0 = a := ⟨_, rfl⟩
    have hqyI : (qA : Int) * (y0 : Int) = (qy : Int) := by rw [← hqye]; simp
    rw [hqye] at hqy
    obtain ⟨br, hbr⟩ : ∃ a, 4294967296 * rA = a := ⟨_, rfl⟩
    have hbrI : (4294967296 : Int) * (rA : Int) = (br : Int) := by omega
    obtain ⟨bu, hbu⟩ : ∃ a, br + u1 = a := ⟨_, rfl⟩
    have hbuI : (br : Int) + (u1 : Int) = (bu : Int) := by omega
    have wqy : IntKind.u64.wrap (qy : Int) = (qy : Int) := by rw [IntKind.wrap_u64]; omega
    have wbr : IntKind.u64.wrap (br : Int) = (br : Int) := by rw [IntKind.wrap_u64]; omega
    have wbu : IntKind.u64.wrap (bu : Int) = (bu : Int) := by rw [IntKind.wrap_u64]; omega
    have key : 4294967296 ≤ qA ∨ (qA < 4294967296 ∧ bu < qy) ∨ (qA < 4294967296 ∧ qy ≤ bu) := by omega
    rcases key with hk | hk | hk
    · have hk2 : (4294967296 : Int) ≤ (qA : Int) := by omega
      have hlt : (U * 4294967296 + u1) / yy < qA := half_wide (y1 := y1) (y0 := y0) hqU (by omega) hk HYY.out.1
      have hq0 : 0 < qA := Nat.lt_of_le_of_lt (Nat.zero_le _) hlt
      obtain ⟨qA', hq'⟩ : ∃ a, qA - 1 = a := ⟨_, rfl⟩
      have hq'I : (qA : Int) - 1 = (qA' : Int) := by omega
      have wq' : IntKind.u64.wrap (qA' : Int) = (qA' : Int) := by rw [IntKind.wrap_u64]; omega
      obtain ⟨rA', hr'⟩ : ∃ a, rA + y1 = a := ⟨_, rfl⟩
      have hr'I : (rA : Int) + (y1 : Int) = (rA' : Int) := by omega
      have wr' : IntKind.u64.wrap (rA' : Int) = (rA' : Int) := by rw [IntKind.wrap_u64]; omega
      have HQ' := show Hid (qA' * y1 + rA' = U ∧ (U * 4294967296 + u1) / yy ≤ qA') from by
        refine ⟨?_, by rw [← hq']; exact Nat.le_sub_one_of_lt hlt⟩
        rw [← hq', ← hr', Nat.sub_mul, Nat.one_mul]
        have h1 := hqr.out.1
        have h2 : 1 * y1 ≤ qA * y1 := Nat.mul_le_mul_right _ hq0
        omega
      have hq'b : qA' ≤ 4294967296 := by omega
      by_cases hrr : rA' < 4294967296
      · have hrr2 : ¬ (4294967296 : Int) ≤ (rA' : Int) := by omega
        have hq'q : qA' < qA := by omega
        clear hqye hbr hbu hq' hr' hqr hlt
        go_wp2_with fail
        go_roundw
        case rel => exact ⟨qA', rA', rfl, rfl, HQ'.out, by omega, hrr, by simp⟩
        case measure => simp [intOf]; omega
      · have hrr2 : (4294967296 : Int) ≤ (rA' : Int) := by omega
        have hfin : qA' = (U * 4294967296 + u1) / yy := half_done HYY.out.1 (by omega) HQ'.out.1 (half_out y0l hq'b (by omega) _) HQ'.out.2
        have HFA := show Hid (qA' = (U * 4294967296 + u1) / yy) from hfin
        clear hqye hbr hbu hq' hr' hqr hfin HQ' hlt
        obtain ⟨Ub, hUb⟩ : ∃ a, U * 4294967296 % 18446744073709551616 = a := ⟨_, rfl⟩
        have wUb : IntKind.u64.wrap ((U : Int) * 4294967296) = (Ub : Int) := by rw [IntKind.wrap_u64]; omega
        obtain ⟨X1, hX1⟩ : ∃ a, (Ub + u1) % 18446744073709551616 = a := ⟨_, rfl⟩
        have wX1 : IntKind.u64.wrap ((Ub : Int) + (u1 : Int)) = (X1 : Int) := by rw [IntKind.wrap_u64]; omega
        obtain ⟨X2, hX2⟩ : ∃ a, qA' * yy % 18446744073709551616 = a := ⟨_, rfl⟩
        have wX2 : IntKind.u64.wrap ((qA' : Int) * (yy : Int)) = (X2 : Int) := by rw [Mul64.mulN, Mul64.wrapM, hX2]
        obtain ⟨m, hm⟩ : ∃ a, (X1 + 18446744073709551616 - X2) % 18446744073709551616 = a := ⟨_, rfl⟩
        have wm : IntKind.u64.wrap ((X1 : Int) - (X2 : Int)) = (m : Int) := by rw [IntKind.wrap_u64]; omega
        have hme : m = (U * 4294967296 + u1) % yy := by
          have h1 : X1 = (U * 4294967296 + u1) % 18446744073709551616 := by rw [← hX1, ← hUb, Nat.mod_add_mod]
          rw [← hm, ← hX2, h1]
          exact half_left (by omega) hn2 HFA.out
        have HM := show Hid (m = (U * 4294967296 + u1) % yy) from hme
        have gqU : m < yy := by rw [hme]; exact Nat.mod_lt _ (by omega)
        clear hme hm hX1 hX2 hUb
        obtain ⟨q2, hq2⟩ : ∃ a, m / y1 = a := ⟨_, rfl⟩
        obtain ⟨r2, hr2⟩ : ∃ a, m % y1 = a := ⟨_, rfl⟩
        obtain ⟨z2, hz2⟩ : ∃ a, q2 * y1 = a := ⟨_, rfl⟩
        have gqe : q2 * y1 + r2 = m := by rw [← hq2, ← hr2, Nat.mul_comm, Nat.div_add_mod]
        have gql : (m * 4294967296 + u0) / yy ≤ q2 := by rw [← hq2]; exact half_start HYY.out.1 (by omega) u0l
        have gqb : q2 ≤ 4294967297 := by rw [← hq2]; exact half_bound HYY.out.1 y1l y0l gqU
        have hr2l : r2 < y1 := by rw [← hr2]; exact Nat.mod_lt _ (by omega)
        have hq2I : (m : Int) / (y1 : Int) = (q2 : Int) := by rw [← hq2]; simp
        have hz2I : (q2 : Int) * (y1 : Int) = (z2 : Int) := by rw [← hz2]; simp
        have hr2I : (m : Int) - (z2 : Int) = (r2 : Int) := by rw [hz2] at gqe; omega
        have wq2 : IntKind.u64.wrap (q2 : Int) = (q2 : Int) := by rw [IntKind.wrap_u64]; omega
        have wz2 : IntKind.u64.wrap (z2 : Int) = (z2 : Int) := by rw [IntKind.wrap_u64]; rw [hz2] at gqe; omega
        have wr2 : IntKind.u64.wrap (r2 : Int) = (r2 : Int) := by rw [IntKind.wrap_u64]; omega
        clear hq2 hr2 hz2
        go_wp2_with fail
        go_loopw [18, 16] (fun p v wv => ∃ qB rB : Nat, p = .int .u64 (qB : Int) ∧ v = .int .u64 (rB : Int) ∧ Hid (qB * y1 + rB = m ∧ (m * 4294967296 + u0) / yy ≤ qB) ∧ qB ≤ 4294967297 ∧ rB < 4294967296 ∧ wv = wr) (fun p _ _ => (intOf p).toNat)
        case atStart => exact ⟨_, _, rfl, rfl, ⟨gqe, gql⟩, gqb, by omega, rfl⟩
        case round =>
          obtain ⟨qB, rB, rfl, rfl, hqr, hqb, hrb, rfl⟩ := hrel
          have hqy : qB * y0 < 18446744073709551616 := by
            have := Nat.mul_le_mul (show qB ≤ 4294967297 from hqb) (show y0 ≤ 4294967295 by omega)
            omega
          obtain ⟨qy, hqye⟩ : ∃ a, qB * y0 = a := ⟨_, rfl⟩
          have hqyI : (qB : Int) * (y0 : Int) = (qy : Int) := by rw [← hqye]; simp
          rw [hqye] at hqy
          obtain ⟨br, hbr⟩ : ∃ a, 4294967296 * rB = a := ⟨_, rfl⟩
          have hbrI : (4294967296 : Int) * (rB : Int) = (br : Int) := by omega
          obtain ⟨bu, hbu⟩ : ∃ a, br + u0 = a := ⟨_, rfl⟩
          have hbuI : (br : Int) + (u0 : Int) = (bu : Int) := by omega
          have wqy : IntKind.u64.wrap (qy : Int) = (qy : Int) := by rw [IntKind.wrap_u64]; omega
          have wbr : IntKind.u64.wrap (br : Int) = (br : Int) := by rw [IntKind.wrap_u64]; omega
          have wbu : IntKind.u64.wrap (bu : Int) = (bu : Int) := by rw [IntKind.wrap_u64]; omega
          have key : 4294967296 ≤ qB ∨ (qB < 4294967296 ∧ bu < qy) ∨ (qB < 4294967296 ∧ qy ≤ bu) := by omega
          rcases key with hk | hk | hk
          · have hk2 : (4294967296 : Int) ≤ (qB : Int) := by omega
            have hlt : (m * 4294967296 + u0) / yy < qB := half_wide (y1 := y1) (y0 := y0) gqU (by omega) hk HYY.out.1
            have hq0 : 0 < qB := Nat.lt_of_le_of_lt (Nat.zero_le _) hlt
            obtain ⟨qB', hq'⟩ : ∃ a, qB - 1 = a := ⟨_, rfl⟩
            have hq'I : (qB : Int) - 1 = (qB' : Int) := by omega
            have wq' : IntKind.u64.wrap (qB' : Int) = (qB' : Int) := by rw [IntKind.wrap_u64]; omega
            obtain ⟨rB', hr'⟩ : ∃ a, rB + y1 = a := ⟨_, rfl⟩
            have hr'I : (rB : Int) + (y1 : Int) = (rB' : Int) := by omega
            have wr' : IntKind.u64.wrap (rB' : Int) = (rB' : Int) := by rw [IntKind.wrap_u64]; omega
            have HQ' := show Hid (qB' * y1 + rB' = m ∧ (m * 4294967296 + u0) / yy ≤ qB') from by
              refine ⟨?_, by rw [← hq']; exact Nat.le_sub_one_of_lt hlt⟩
              rw [← hq', ← hr', Nat.sub_mul, Nat.one_mul]
              have h1 := hqr.out.1
              have h2 : 1 * y1 ≤ qB * y1 := Nat.mul_le_mul_right _ hq0
              omega
            have hq'b : qB' ≤ 4294967296 := by omega
            by_cases hrr : rB' < 4294967296
            · have hrr2 : ¬ (4294967296 : Int) ≤ (rB' : Int) := by omega
              have hq'q : qB' < qB := by omega
              clear hqye hbr hbu hq' hr' hqr hlt
              go_wp2_with fail
              go_roundw
              case rel => exact ⟨qB', rB', rfl, rfl, HQ'.out, by omega, hrr, by simp⟩
              case measure => simp [intOf]; omega
            · have hrr2 : (4294967296 : Int) ≤ (rB' : Int) := by omega
              have hfin : qB' = (m * 4294967296 + u0) / yy := half_done HYY.out.1 (by omega) HQ'.out.1 (half_out y0l hq'b (by omega) _) HQ'.out.2
              have HFB := show Hid (qB' = (m * 4294967296 + u0) / yy) from hfin
              clear hqye hbr hbu hq' hr' hqr hfin HQ' hlt
              obtain ⟨t1, t2⟩ := two_halves (U := U) (u1 := u1) (u0 := u0) (by omega) HFA.out HM.out HFB.out
              rw [HUV.out] at t1 t2
              obtain ⟨RR, hRR⟩ : ∃ a, (m * 4294967296 + u0) % yy = a := ⟨_, rfl⟩
              rw [hRR, HYY.out.2] at t2
              rw [HYY.out.2] at t1
              obtain ⟨d1, d2⟩ := div_scaled (hi := hi) (lo := lo) (y := y) (s := 2 ^ s) (Nat.pow_pos (by decide)) (by omega)
              rw [d1, HQR.out.1] at t1
              rw [← t2, HQR.out.2] at d2
              have hRl : RR < yy := by rw [← hRR]; exact Nat.mod_lt _ (by omega)
              obtain ⟨qb, hqbe⟩ : ∃ a, qA' * 4294967296 = a := ⟨_, rfl⟩
              have hqbI : (qA' : Int) * 4294967296 = (qb : Int) := by omega
              have hQQI : (qb : Int) + (qB' : Int) = (QQ : Int) := by omega
              have wqb : IntKind.u64.wrap (qb : Int) = (qb : Int) := by rw [IntKind.wrap_u64]; omega
              have wQQ : IntKind.u64.wrap (QQ : Int) = (QQ : Int) := by rw [IntKind.wrap_u64]; omega
              obtain ⟨Mb, hMb⟩ : ∃ a, m * 4294967296 % 18446744073709551616 = a := ⟨_, rfl⟩
              have wMb : IntKind.u64.wrap ((m : Int) * 4294967296) = (Mb : Int) := by rw [IntKind.wrap_u64]; omega
              obtain ⟨X3, hX3⟩ : ∃ a, (Mb + u0) % 18446744073709551616 = a := ⟨_, rfl⟩
              have wX3 : IntKind.u64.wrap ((Mb : Int) + (u0 : Int)) = (X3 : Int) := by rw [IntKind.wrap_u64]; omega
              obtain ⟨X4, hX4⟩ : ∃ a, qB' * yy % 18446744073709551616 = a := ⟨_, rfl⟩
              have wX4 : IntKind.u64.wrap ((qB' : Int) * (yy : Int)) = (X4 : Int) := by rw [Mul64.mulN, Mul64.wrapM, hX4]
              have hRe : (X3 + 18446744073709551616 - X4) % 18446744073709551616 = RR := by
                have h1 : X3 = (m * 4294967296 + u0) % 18446744073709551616 := by rw [← hX3, ← hMb, Nat.mod_add_mod]
                rw [← hRR, ← hX4, h1]
                exact half_left (by omega) hn2 HFB.out
              have wRR : IntKind.u64.wrap ((X3 : Int) - (X4 : Int)) = (RR : Int) := by rw [IntKind.wrap_u64]; omega
              have hremI : (RR : Int) / 2 ^ s = (rem : Int) := by rw [← d2]; simp
              clear t1 t2 d1 d2 hRR hqbe hMb hX3 hX4 hRe
              go_wp2_with fail
              go_ret2
              exact ⟨rfl, rfl⟩
          · have hk2 : ¬ (4294967296 : Int) ≤ (qB : Int) := by omega
            have hk3 : (bu : Int) < (qy : Int) := by omega
            have hlt : (m * 4294967296 + u0) / yy < qB := half_more HYY.out.1 hqr.out.1 (by rw [hqye]; omega)
            have hq0 : 0 < qB := Nat.lt_of_le_of_lt (Nat.zero_le _) hlt
            obtain ⟨qB', hq'⟩ : ∃ a, qB - 1 = a := ⟨_, rfl⟩
            have hq'I : (qB : Int) - 1 = (qB' : Int) := by omega
            have wq' : IntKind.u64.wrap (qB' : Int) = (qB' : Int) := by rw [IntKind.wrap_u64]; omega
            obtain ⟨rB', hr'⟩ : ∃ a, rB + y1 = a := ⟨_, rfl⟩
            have hr'I : (rB : Int) + (y1 : Int) = (rB' : Int) := by omega
            have wr' : IntKind.u64.wrap (rB' : Int) = (rB' : Int) := by rw [IntKind.wrap_u64]; omega
            have HQ' := show Hid (qB' * y1 + rB' = m ∧ (m * 4294967296 + u0) / yy ≤ qB') from by
              refine ⟨?_, by rw [← hq']; exact Nat.le_sub_one_of_lt hlt⟩
              rw [← hq', ← hr', Nat.sub_mul, Nat.one_mul]
              have h1 := hqr.out.1
              have h2 : 1 * y1 ≤ qB * y1 := Nat.mul_le_mul_right _ hq0
              omega
            have hq'b : qB' ≤ 4294967296 := by omega
            by_cases hrr : rB' < 4294967296
            · have hrr2 : ¬ (4294967296 : Int) ≤ (rB' : Int) := by omega
              have hq'q : qB' < qB := by omega
              clear hqye hbr hbu hq' hr' hqr hlt
              go_wp2_with fail
              go_roundw
              case rel => exact ⟨qB', rB', rfl, rfl, HQ'.out, by omega, hrr, by simp⟩
              case measure => simp [intOf]; omega
            · have hrr2 : (4294967296 : Int) ≤ (rB' : Int) := by omega
              have hfin : qB' = (m * 4294967296 + u0) / yy := half_done HYY.out.1 (by omega) HQ'.out.1 (half_out y0l hq'b (by omega) _) HQ'.out.2
              have HFB := show Hid (qB' = (m * 4294967296 + u0) / yy) from hfin
              clear hqye hbr hbu hq' hr' hqr hfin HQ' hlt
              obtain ⟨t1, t2⟩ := two_halves (U := U) (u1 := u1) (u0 := u0) (by omega) HFA.out HM.out HFB.out
              rw [HUV.out] at t1 t2
              obtain ⟨RR, hRR⟩ : ∃ a, (m * 4294967296 + u0) % yy = a := ⟨_, rfl⟩
              rw [hRR, HYY.out.2] at t2
              rw [HYY.out.2] at t1
              obtain ⟨d1, d2⟩ := div_scaled (hi := hi) (lo := lo) (y := y) (s := 2 ^ s) (Nat.pow_pos (by decide)) (by omega)
              rw [d1, HQR.out.1] at t1
              rw [← t2, HQR.out.2] at d2
              have hRl : RR < yy := by rw [← hRR]; exact Nat.mod_lt _ (by omega)
              obtain ⟨qb, hqbe⟩ : ∃ a, qA' * 4294967296 = a := ⟨_, rfl⟩
              have hqbI : (qA' : Int) * 4294967296 = (qb : Int) := by omega
              have hQQI : (qb : Int) + (qB' : Int) = (QQ : Int) := by omega
              have wqb : IntKind.u64.wrap (qb : Int) = (qb : Int) := by rw [IntKind.wrap_u64]; omega
              have wQQ : IntKind.u64.wrap (QQ : Int) = (QQ : Int) := by rw [IntKind.wrap_u64]; omega
              obtain ⟨Mb, hMb⟩ : ∃ a, m * 4294967296 % 18446744073709551616 = a := ⟨_, rfl⟩
              have wMb : IntKind.u64.wrap ((m : Int) * 4294967296) = (Mb : Int) := by rw [IntKind.wrap_u64]; omega
              obtain ⟨X3, hX3⟩ : ∃ a, (Mb + u0) % 18446744073709551616 = a := ⟨_, rfl⟩
              have wX3 : IntKind.u64.wrap ((Mb : Int) + (u0 : Int)) = (X3 : Int) := by rw [IntKind.wrap_u64]; omega
              obtain ⟨X4, hX4⟩ : ∃ a, qB' * yy % 18446744073709551616 = a := ⟨_, rfl⟩
              have wX4 : IntKind.u64.wrap ((qB' : Int) * (yy : Int)) = (X4 : Int) := by rw [Mul64.mulN, Mul64.wrapM, hX4]
              have hRe : (X3 + 18446744073709551616 - X4) % 18446744073709551616 = RR := by
                have h1 : X3 = (m * 4294967296 + u0) % 18446744073709551616 := by rw [← hX3, ← hMb, Nat.mod_add_mod]
                rw [← hRR, ← hX4, h1]
                exact half_left (by omega) hn2 HFB.out
              have wRR : IntKind.u64.wrap ((X3 : Int) - (X4 : Int)) = (RR : Int) := by rw [IntKind.wrap_u64]; omega
              have hremI : (RR : Int) / 2 ^ s = (rem : Int) := by rw [← d2]; simp
              clear t1 t2 d1 d2 hRR hqbe hMb hX3 hX4 hRe
              go_wp2_with fail
              go_ret2
              exact ⟨rfl, rfl⟩
          · have hk2 : ¬ (4294967296 : Int) ≤ (qB : Int) := by omega
            have hk3 : ¬ (bu : Int) < (qy : Int) := by omega
            have hfin : qB = (m * 4294967296 + u0) / yy := half_done HYY.out.1 (by omega) hqr.out.1 (by rw [hqye]; omega) hqr.out.2
            have HFB := show Hid (qB = (m * 4294967296 + u0) / yy) from hfin
            clear hqye hbr hbu hqr hfin
            obtain ⟨t1, t2⟩ := two_halves (U := U) (u1 := u1) (u0 := u0) (by omega) HFA.out HM.out HFB.out
            rw [HUV.out] at t1 t2
            obtain ⟨RR, hRR⟩ : ∃ a, (m * 4294967296 + u0) % yy = a := ⟨_, rfl⟩
            rw [hRR, HYY.out.2] at t2
            rw [HYY.out.2] at t1
            obtain ⟨d1, d2⟩ := div_scaled (hi := hi) (lo := lo) (y := y) (s := 2 ^ s) (Nat.pow_pos (by decide)) (by omega)
            rw [d1, HQR.out.1] at t1
            rw [← t2, HQR.out.2] at d2
            have hRl : RR < yy := by rw [← hRR]; exact Nat.mod_lt _ (by omega)
            obtain ⟨qb, hqbe⟩ : ∃ a, qA' * 4294967296 = a := ⟨_, rfl⟩
            have hqbI : (qA' : Int) * 4294967296 = (qb : Int) := by omega
            have hQQI : (qb : Int) + (qB : Int) = (QQ : Int) := by omega
            have wqb : IntKind.u64.wrap (qb : Int) = (qb : Int) := by rw [IntKind.wrap_u64]; omega
            have wQQ : IntKind.u64.wrap (QQ : Int) = (QQ : Int) := by rw [IntKind.wrap_u64]; omega
            obtain ⟨Mb, hMb⟩ : ∃ a, m * 4294967296 % 18446744073709551616 = a := ⟨_, rfl⟩
            have wMb : IntKind.u64.wrap ((m : Int) * 4294967296) = (Mb : Int) := by rw [IntKind.wrap_u64]; omega
            obtain ⟨X3, hX3⟩ : ∃ a, (Mb + u0) % 18446744073709551616 = a := ⟨_, rfl⟩
            have wX3 : IntKind.u64.wrap ((Mb : Int) + (u0 : Int)) = (X3 : Int) := by rw [IntKind.wrap_u64]; omega
            obtain ⟨X4, hX4⟩ : ∃ a, qB * yy % 18446744073709551616 = a := ⟨_, rfl⟩
            have wX4 : IntKind.u64.wrap ((qB : Int) * (yy : Int)) = (X4 : Int) := by rw [Mul64.mulN, Mul64.wrapM, hX4]
            have hRe : (X3 + 18446744073709551616 - X4) % 18446744073709551616 = RR := by
              have h1 : X3 = (m * 4294967296 + u0) % 18446744073709551616 := by rw [← hX3, ← hMb, Nat.mod_add_mod]
              rw [← hRR, ← hX4, h1]
              exact half_left (by omega) hn2 HFB.out
            have wRR : IntKind.u64.wrap ((X3 : Int) - (X4 : Int)) = (RR : Int) := by rw [IntKind.wrap_u64]; omega
            have hremI : (RR : Int) / 2 ^ s = (rem : Int) := by rw [← d2]; simp
            clear t1 t2 d1 d2 hRR hqbe hMb hX3 hX4 hRe
            go_wp2_with fail
            go_ret2
            exact ⟨rfl, rfl⟩
    · have hk2 : ¬ (4294967296 : Int) ≤ (qA : Int) := by omega
      have hk3 : (bu : Int) < (qy : Int) := by omega
      have hlt : (U * 4294967296 + u1) / yy < qA := half_more HYY.out.1 hqr.out.1 (by rw [hqye]; omega)
      have hq0 : 0 < qA := Nat.lt_of_le_of_lt (Nat.zero_le _) hlt
      obtain ⟨qA', hq'⟩ : ∃ a, qA - 1 = a := ⟨_, rfl⟩
      have hq'I : (qA : Int) - 1 = (qA' : Int) := by omega
      have wq' : IntKind.u64.wrap (qA' : Int) = (qA' : Int) := by rw [IntKind.wrap_u64]; omega
      obtain ⟨rA', hr'⟩ : ∃ a, rA + y1 = a := ⟨_, rfl⟩
      have hr'I : (rA : Int) + (y1 : Int) = (rA' : Int) := by omega
      have wr' : IntKind.u64.wrap (rA' : Int) = (rA' : Int) := by rw [IntKind.wrap_u64]; omega
      have HQ' := show Hid (qA' * y1 + rA' = U ∧ (U * 4294967296 + u1) / yy ≤ qA') from by
        refine ⟨?_, by rw [← hq']; exact Nat.le_sub_one_of_lt hlt⟩
        rw [← hq', ← hr', Nat.sub_mul, Nat.one_mul]
        have h1 := hqr.out.1
        have h2 : 1 * y1 ≤ qA * y1 := Nat.mul_le_mul_right _ hq0
        omega
      have hq'b : qA' ≤ 4294967296 := by omega
      by_cases hrr : rA' < 4294967296
      · have hrr2 : ¬ (4294967296 : Int) ≤ (rA' : Int) := by omega
        have hq'q : qA' < qA := by omega
        clear hqye hbr hbu hq' hr' hqr hlt
        go_wp2_with fail
        go_roundw
        case rel => exact ⟨qA', rA', rfl, rfl, HQ'.out, by omega, hrr, by simp⟩
        case measure => simp [intOf]; omega
      · have hrr2 : (4294967296 : Int) ≤ (rA' : Int) := by omega
        have hfin : qA' = (U * 4294967296 + u1) / yy := half_done HYY.out.1 (by omega) HQ'.out.1 (half_out y0l hq'b (by omega) _) HQ'.out.2
        have HFA := show Hid (qA' = (U * 4294967296 + u1) / yy) from hfin
        clear hqye hbr hbu hq' hr' hqr hfin HQ' hlt
        obtain ⟨Ub, hUb⟩ : ∃ a, U * 4294967296 % 18446744073709551616 = a := ⟨_, rfl⟩
        have wUb : IntKind.u64.wrap ((U : Int) * 4294967296) = (Ub : Int) := by rw [IntKind.wrap_u64]; omega
        obtain ⟨X1, hX1⟩ : ∃ a, (Ub + u1) % 18446744073709551616 = a := ⟨_, rfl⟩
        have wX1 : IntKind.u64.wrap ((Ub : Int) + (u1 : Int)) = (X1 : Int) := by rw [IntKind.wrap_u64]; omega
        obtain ⟨X2, hX2⟩ : ∃ a, qA' * yy % 18446744073709551616 = a := ⟨_, rfl⟩
        have wX2 : IntKind.u64.wrap ((qA' : Int) * (yy : Int)) = (X2 : Int) := by rw [Mul64.mulN, Mul64.wrapM, hX2]
        obtain ⟨m, hm⟩ : ∃ a, (X1 + 18446744073709551616 - X2) % 18446744073709551616 = a := ⟨_, rfl⟩
        have wm : IntKind.u64.wrap ((X1 : Int) - (X2 : Int)) = (m : Int) := by rw [IntKind.wrap_u64]; omega
        have hme : m = (U * 4294967296 + u1) % yy := by
          have h1 : X1 = (U * 4294967296 + u1) % 18446744073709551616 := by rw [← hX1, ← hUb, Nat.mod_add_mod]
          rw [← hm, ← hX2, h1]
          exact half_left (by omega) hn2 HFA.out
        have HM := show Hid (m = (U * 4294967296 + u1) % yy) from hme
        have gqU : m < yy := by rw [hme]; exact Nat.mod_lt _ (by omega)
        clear hme hm hX1 hX2 hUb
        obtain ⟨q2, hq2⟩ : ∃ a, m / y1 = a := ⟨_, rfl⟩
        obtain ⟨r2, hr2⟩ : ∃ a, m % y1 = a := ⟨_, rfl⟩
        obtain ⟨z2, hz2⟩ : ∃ a, q2 * y1 = a := ⟨_, rfl⟩
        have gqe : q2 * y1 + r2 = m := by rw [← hq2, ← hr2, Nat.mul_comm, Nat.div_add_mod]
        have gql : (m * 4294967296 + u0) / yy ≤ q2 := by rw [← hq2]; exact half_start HYY.out.1 (by omega) u0l
        have gqb : q2 ≤ 4294967297 := by rw [← hq2]; exact half_bound HYY.out.1 y1l y0l gqU
        have hr2l : r2 < y1 := by rw [← hr2]; exact Nat.mod_lt _ (by omega)
        have hq2I : (m : Int) / (y1 : Int) = (q2 : Int) := by rw [← hq2]; simp
        have hz2I : (q2 : Int) * (y1 : Int) = (z2 : Int) := by rw [← hz2]; simp
        have hr2I : (m : Int) - (z2 : Int) = (r2 : Int) := by rw [hz2] at gqe; omega
        have wq2 : IntKind.u64.wrap (q2 : Int) = (q2 : Int) := by rw [IntKind.wrap_u64]; omega
        have wz2 : IntKind.u64.wrap (z2 : Int) = (z2 : Int) := by rw [IntKind.wrap_u64]; rw [hz2] at gqe; omega
        have wr2 : IntKind.u64.wrap (r2 : Int) = (r2 : Int) := by rw [IntKind.wrap_u64]; omega
        clear hq2 hr2 hz2
        go_wp2_with fail
        go_loopw [18, 16] (fun p v wv => ∃ qB rB : Nat, p = .int .u64 (qB : Int) ∧ v = .int .u64 (rB : Int) ∧ Hid (qB * y1 + rB = m ∧ (m * 4294967296 + u0) / yy ≤ qB) ∧ qB ≤ 4294967297 ∧ rB < 4294967296 ∧ wv = wr) (fun p _ _ => (intOf p).toNat)
        case atStart => exact ⟨_, _, rfl, rfl, ⟨gqe, gql⟩, gqb, by omega, rfl⟩
        case round =>
          obtain ⟨qB, rB, rfl, rfl, hqr, hqb, hrb, rfl⟩ := hrel
          have hqy : qB * y0 < 18446744073709551616 := by
            have := Nat.mul_le_mul (show qB ≤ 4294967297 from hqb) (show y0 ≤ 4294967295 by omega)
            omega
          obtain ⟨qy, hqye⟩ : ∃ a, qB * y0 = a := ⟨_, rfl⟩
          have hqyI : (qB : Int) * (y0 : Int) = (qy : Int) := by rw [← hqye]; simp
          rw [hqye] at hqy
          obtain ⟨br, hbr⟩ : ∃ a, 4294967296 * rB = a := ⟨_, rfl⟩
          have hbrI : (4294967296 : Int) * (rB : Int) = (br : Int) := by omega
          obtain ⟨bu, hbu⟩ : ∃ a, br + u0 = a := ⟨_, rfl⟩
          have hbuI : (br : Int) + (u0 : Int) = (bu : Int) := by omega
          have wqy : IntKind.u64.wrap (qy : Int) = (qy : Int) := by rw [IntKind.wrap_u64]; omega
          have wbr : IntKind.u64.wrap (br : Int) = (br : Int) := by rw [IntKind.wrap_u64]; omega
          have wbu : IntKind.u64.wrap (bu : Int) = (bu : Int) := by rw [IntKind.wrap_u64]; omega
          have key : 4294967296 ≤ qB ∨ (qB < 4294967296 ∧ bu < qy) ∨ (qB < 4294967296 ∧ qy ≤ bu) := by omega
          rcases key with hk | hk | hk
          · have hk2 : (4294967296 : Int) ≤ (qB : Int) := by omega
            have hlt : (m * 4294967296 + u0) / yy < qB := half_wide (y1 := y1) (y0 := y0) gqU (by omega) hk HYY.out.1
            have hq0 : 0 < qB := Nat.lt_of_le_of_lt (Nat.zero_le _) hlt
            obtain ⟨qB', hq'⟩ : ∃ a, qB - 1 = a := ⟨_, rfl⟩
            have hq'I : (qB : Int) - 1 = (qB' : Int) := by omega
            have wq' : IntKind.u64.wrap (qB' : Int) = (qB' : Int) := by rw [IntKind.wrap_u64]; omega
            obtain ⟨rB', hr'⟩ : ∃ a, rB + y1 = a := ⟨_, rfl⟩
            have hr'I : (rB : Int) + (y1 : Int) = (rB' : Int) := by omega
            have wr' : IntKind.u64.wrap (rB' : Int) = (rB' : Int) := by rw [IntKind.wrap_u64]; omega
            have HQ' := show Hid (qB' * y1 + rB' = m ∧ (m * 4294967296 + u0) / yy ≤ qB') from by
              refine ⟨?_, by rw [← hq']; exact Nat.le_sub_one_of_lt hlt⟩
              rw [← hq', ← hr', Nat.sub_mul, Nat.one_mul]
              have h1 := hqr.out.1
              have h2 : 1 * y1 ≤ qB * y1 := Nat.mul_le_mul_right _ hq0
              omega
            have hq'b : qB' ≤ 4294967296 := by omega
            by_cases hrr : rB' < 4294967296
            · have hrr2 : ¬ (4294967296 : Int) ≤ (rB' : Int) := by omega
              have hq'q : qB' < qB := by omega
              clear hqye hbr hbu hq' hr' hqr hlt
              go_wp2_with fail
              go_roundw
              case rel => exact ⟨qB', rB', rfl, rfl, HQ'.out, by omega, hrr, by simp⟩
              case measure => simp [intOf]; omega
            · have hrr2 : (4294967296 : Int) ≤ (rB' : Int) := by omega
              have hfin : qB' = (m * 4294967296 + u0) / yy := half_done HYY.out.1 (by omega) HQ'.out.1 (half_out y0l hq'b (by omega) _) HQ'.out.2
              have HFB := show Hid (qB' = (m * 4294967296 + u0) / yy) from hfin
              clear hqye hbr hbu hq' hr' hqr hfin HQ' hlt
              obtain ⟨t1, t2⟩ := two_halves (U := U) (u1 := u1) (u0 := u0) (by omega) HFA.out HM.out HFB.out
              rw [HUV.out] at t1 t2
              obtain ⟨RR, hRR⟩ : ∃ a, (m * 4294967296 + u0) % yy = a := ⟨_, rfl⟩
              rw [hRR, HYY.out.2] at t2
              rw [HYY.out.2] at t1
              obtain ⟨d1, d2⟩ := div_scaled (hi := hi) (lo := lo) (y := y) (s := 2 ^ s) (Nat.pow_pos (by decide)) (by omega)
              rw [d1, HQR.out.1] at t1
              rw [← t2, HQR.out.2] at d2
              have hRl : RR < yy := by rw [← hRR]; exact Nat.mod_lt _ (by omega)
              obtain ⟨qb, hqbe⟩ : ∃ a, qA' * 4294967296 = a := ⟨_, rfl⟩
              have hqbI : (qA' : Int) * 4294967296 = (qb : Int) := by omega
              have hQQI : (qb : Int) + (qB' : Int) = (QQ : Int) := by omega
              have wqb : IntKind.u64.wrap (qb : Int) = (qb : Int) := by rw [IntKind.wrap_u64]; omega
              have wQQ : IntKind.u64.wrap (QQ : Int) = (QQ : Int) := by rw [IntKind.wrap_u64]; omega
              obtain ⟨Mb, hMb⟩ : ∃ a, m * 4294967296 % 18446744073709551616 = a := ⟨_, rfl⟩
              have wMb : IntKind.u64.wrap ((m : Int) * 4294967296) = (Mb : Int) := by rw [IntKind.wrap_u64]; omega
              obtain ⟨X3, hX3⟩ : ∃ a, (Mb + u0) % 18446744073709551616 = a := ⟨_, rfl⟩
              have wX3 : IntKind.u64.wrap ((Mb : Int) + (u0 : Int)) = (X3 : Int) := by rw [IntKind.wrap_u64]; omega
              obtain ⟨X4, hX4⟩ : ∃ a, qB' * yy % 18446744073709551616 = a := ⟨_, rfl⟩
              have wX4 : IntKind.u64.wrap ((qB' : Int) * (yy : Int)) = (X4 : Int) := by rw [Mul64.mulN, Mul64.wrapM, hX4]
              have hRe : (X3 + 18446744073709551616 - X4) % 18446744073709551616 = RR := by
                have h1 : X3 = (m * 4294967296 + u0) % 18446744073709551616 := by rw [← hX3, ← hMb, Nat.mod_add_mod]
                rw [← hRR, ← hX4, h1]
                exact half_left (by omega) hn2 HFB.out
              have wRR : IntKind.u64.wrap ((X3 : Int) - (X4 : Int)) = (RR : Int) := by rw [IntKind.wrap_u64]; omega
              have hremI : (RR : Int) / 2 ^ s = (rem : Int) := by rw [← d2]; simp
              clear t1 t2 d1 d2 hRR hqbe hMb hX3 hX4 hRe
              go_wp2_with fail
              go_ret2
              exact ⟨rfl, rfl⟩
          · have hk2 : ¬ (4294967296 : Int) ≤ (qB : Int) := by omega
            have hk3 : (bu : Int) < (qy : Int) := by omega
            have hlt : (m * 4294967296 + u0) / yy < qB := half_more HYY.out.1 hqr.out.1 (by rw [hqye]; omega)
            have hq0 : 0 < qB := Nat.lt_of_le_of_lt (Nat.zero_le _) hlt
            obtain ⟨qB', hq'⟩ : ∃ a, qB - 1 = a := ⟨_, rfl⟩
            have hq'I : (qB : Int) - 1 = (qB' : Int) := by omega
            have wq' : IntKind.u64.wrap (qB' : Int) = (qB' : Int) := by rw [IntKind.wrap_u64]; omega
            obtain ⟨rB', hr'⟩ : ∃ a, rB + y1 = a := ⟨_, rfl⟩
            have hr'I : (rB : Int) + (y1 : Int) = (rB' : Int) := by omega
            have wr' : IntKind.u64.wrap (rB' : Int) = (rB' : Int) := by rw [IntKind.wrap_u64]; omega
            have HQ' := show Hid (qB' * y1 + rB' = m ∧ (m * 4294967296 + u0) / yy ≤ qB') from by
              refine ⟨?_, by rw [← hq']; exact Nat.le_sub_one_of_lt hlt⟩
              rw [← hq', ← hr', Nat.sub_mul, Nat.one_mul]
              have h1 := hqr.out.1
              have h2 : 1 * y1 ≤ qB * y1 := Nat.mul_le_mul_right _ hq0
              omega
            have hq'b : qB' ≤ 4294967296 := by omega
            by_cases hrr : rB' < 4294967296
            · have hrr2 : ¬ (4294967296 : Int) ≤ (rB' : Int) := by omega
              have hq'q : qB' < qB := by omega
              clear hqye hbr hbu hq' hr' hqr hlt
              go_wp2_with fail
              go_roundw
              case rel => exact ⟨qB', rB', rfl, rfl, HQ'.out, by omega, hrr, by simp⟩
              case measure => simp [intOf]; omega
            · have hrr2 : (4294967296 : Int) ≤ (rB' : Int) := by omega
              have hfin : qB' = (m * 4294967296 + u0) / yy := half_done HYY.out.1 (by omega) HQ'.out.1 (half_out y0l hq'b (by omega) _) HQ'.out.2
              have HFB := show Hid (qB' = (m * 4294967296 + u0) / yy) from hfin
              clear hqye hbr hbu hq' hr' hqr hfin HQ' hlt
              obtain ⟨t1, t2⟩ := two_halves (U := U) (u1 := u1) (u0 := u0) (by omega) HFA.out HM.out HFB.out
              rw [HUV.out] at t1 t2
              obtain ⟨RR, hRR⟩ : ∃ a, (m * 4294967296 + u0) % yy = a := ⟨_, rfl⟩
              rw [hRR, HYY.out.2] at t2
              rw [HYY.out.2] at t1
              obtain ⟨d1, d2⟩ := div_scaled (hi := hi) (lo := lo) (y := y) (s := 2 ^ s) (Nat.pow_pos (by decide)) (by omega)
              rw [d1, HQR.out.1] at t1
              rw [← t2, HQR.out.2] at d2
              have hRl : RR < yy := by rw [← hRR]; exact Nat.mod_lt _ (by omega)
              obtain ⟨qb, hqbe⟩ : ∃ a, qA' * 4294967296 = a := ⟨_, rfl⟩
              have hqbI : (qA' : Int) * 4294967296 = (qb : Int) := by omega
              have hQQI : (qb : Int) + (qB' : Int) = (QQ : Int) := by omega
              have wqb : IntKind.u64.wrap (qb : Int) = (qb : Int) := by rw [IntKind.wrap_u64]; omega
              have wQQ : IntKind.u64.wrap (QQ : Int) = (QQ : Int) := by rw [IntKind.wrap_u64]; omega
              obtain ⟨Mb, hMb⟩ : ∃ a, m * 4294967296 % 18446744073709551616 = a := ⟨_, rfl⟩
              have wMb : IntKind.u64.wrap ((m : Int) * 4294967296) = (Mb : Int) := by rw [IntKind.wrap_u64]; omega
              obtain ⟨X3, hX3⟩ : ∃ a, (Mb + u0) % 18446744073709551616 = a := ⟨_, rfl⟩
              have wX3 : IntKind.u64.wrap ((Mb : Int) + (u0 : Int)) = (X3 : Int) := by rw [IntKind.wrap_u64]; omega
              obtain ⟨X4, hX4⟩ : ∃ a, qB' * yy % 18446744073709551616 = a := ⟨_, rfl⟩
              have wX4 : IntKind.u64.wrap ((qB' : Int) * (yy : Int)) = (X4 : Int) := by rw [Mul64.mulN, Mul64.wrapM, hX4]
              have hRe : (X3 + 18446744073709551616 - X4) % 18446744073709551616 = RR := by
                have h1 : X3 = (m * 4294967296 + u0) % 18446744073709551616 := by rw [← hX3, ← hMb, Nat.mod_add_mod]
                rw [← hRR, ← hX4, h1]
                exact half_left (by omega) hn2 HFB.out
              have wRR : IntKind.u64.wrap ((X3 : Int) - (X4 : Int)) = (RR : Int) := by rw [IntKind.wrap_u64]; omega
              have hremI : (RR : Int) / 2 ^ s = (rem : Int) := by rw [← d2]; simp
              clear t1 t2 d1 d2 hRR hqbe hMb hX3 hX4 hRe
              go_wp2_with fail
              go_ret2
              exact ⟨rfl, rfl⟩
          · have hk2 : ¬ (4294967296 : Int) ≤ (qB : Int) := by omega
            have hk3 : ¬ (bu : Int) < (qy : Int) := by omega
            have hfin : qB = (m * 4294967296 + u0) / yy := half_done HYY.out.1 (by omega) hqr.out.1 (by rw [hqye]; omega) hqr.out.2
            have HFB := show Hid (qB = (m * 4294967296 + u0) / yy) from hfin
            clear hqye hbr hbu hqr hfin
            obtain ⟨t1, t2⟩ := two_halves (U := U) (u1 := u1) (u0 := u0) (by omega) HFA.out HM.out HFB.out
            rw [HUV.out] at t1 t2
            obtain ⟨RR, hRR⟩ : ∃ a, (m * 4294967296 + u0) % yy = a := ⟨_, rfl⟩
            rw [hRR, HYY.out.2] at t2
            rw [HYY.out.2] at t1
            obtain ⟨d1, d2⟩ := div_scaled (hi := hi) (lo := lo) (y := y) (s := 2 ^ s) (Nat.pow_pos (by decide)) (by omega)
            rw [d1, HQR.out.1] at t1
            rw [← t2, HQR.out.2] at d2
            have hRl : RR < yy := by rw [← hRR]; exact Nat.mod_lt _ (by omega)
            obtain ⟨qb, hqbe⟩ : ∃ a, qA' * 4294967296 = a := ⟨_, rfl⟩
            have hqbI : (qA' : Int) * 4294967296 = (qb : Int) := by omega
            have hQQI : (qb : Int) + (qB : Int) = (QQ : Int) := by omega
            have wqb : IntKind.u64.wrap (qb : Int) = (qb : Int) := by rw [IntKind.wrap_u64]; omega
            have wQQ : IntKind.u64.wrap (QQ : Int) = (QQ : Int) := by rw [IntKind.wrap_u64]; omega
            obtain ⟨Mb, hMb⟩ : ∃ a, m * 4294967296 % 18446744073709551616 = a := ⟨_, rfl⟩
            have wMb : IntKind.u64.wrap ((m : Int) * 4294967296) = (Mb : Int) := by rw [IntKind.wrap_u64]; omega
            obtain ⟨X3, hX3⟩ : ∃ a, (Mb + u0) % 18446744073709551616 = a := ⟨_, rfl⟩
            have wX3 : IntKind.u64.wrap ((Mb : Int) + (u0 : Int)) = (X3 : Int) := by rw [IntKind.wrap_u64]; omega
            obtain ⟨X4, hX4⟩ : ∃ a, qB * yy % 18446744073709551616 = a := ⟨_, rfl⟩
            have wX4 : IntKind.u64.wrap ((qB : Int) * (yy : Int)) = (X4 : Int) := by rw [Mul64.mulN, Mul64.wrapM, hX4]
            have hRe : (X3 + 18446744073709551616 - X4) % 18446744073709551616 = RR := by
              have h1 : X3 = (m * 4294967296 + u0) % 18446744073709551616 := by rw [← hX3, ← hMb, Nat.mod_add_mod]
              rw [← hRR, ← hX4, h1]
              exact half_left (by omega) hn2 HFB.out
            have wRR : IntKind.u64.wrap ((X3 : Int) - (X4 : Int)) = (RR : Int) := by rw [IntKind.wrap_u64]; omega
            have hremI : (RR : Int) / 2 ^ s = (rem : Int) := by rw [← d2]; simp
            clear t1 t2 d1 d2 hRR hqbe hMb hX3 hX4 hRe
            go_wp2_with fail
            go_ret2
            exact ⟨rfl, rfl⟩
    · have hk2 : ¬ (4294967296 : Int) ≤ (qA : Int) := by omega
      have hk3 : ¬ (bu : Int) < (qy : Int) := by omega
      have hfin : qA = (U * 4294967296 + u1) / yy := half_done HYY.out.1 (by omega) hqr.out.1 (by rw [hqye]; omega) hqr.out.2
      have HFA := show Hid (qA = (U * 4294967296 + u1) / yy) from hfin
      clear hqye hbr hbu hqr hfin
      obtain ⟨Ub, hUb⟩ : ∃ a, U * 4294967296 % 18446744073709551616 = a := ⟨_, rfl⟩
      have wUb : IntKind.u64.wrap ((U : Int) * 4294967296) = (Ub : Int) := by rw [IntKind.wrap_u64]; omega
      obtain ⟨X1, hX1⟩ : ∃ a, (Ub + u1) % 18446744073709551616 = a := ⟨_, rfl⟩
      have wX1 : IntKind.u64.wrap ((Ub : Int) + (u1 : Int)) = (X1 : Int) := by rw [IntKind.wrap_u64]; omega
      obtain ⟨X2, hX2⟩ : ∃ a, qA * yy % 18446744073709551616 = a := ⟨_, rfl⟩
      have wX2 : IntKind.u64.wrap ((qA : Int) * (yy : Int)) = (X2 : Int) := by rw [Mul64.mulN, Mul64.wrapM, hX2]
      obtain ⟨m, hm⟩ : ∃ a, (X1 + 18446744073709551616 - X2) % 18446744073709551616 = a := ⟨_, rfl⟩
      have wm : IntKind.u64.wrap ((X1 : Int) - (X2 : Int)) = (m : Int) := by rw [IntKind.wrap_u64]; omega
      have hme : m = (U * 4294967296 + u1) % yy := by
        have h1 : X1 = (U * 4294967296 + u1) % 18446744073709551616 := by rw [← hX1, ← hUb, Nat.mod_add_mod]
        rw [← hm, ← hX2, h1]
        exact half_left (by omega) hn2 HFA.out
      have HM := show Hid (m = (U * 4294967296 + u1) % yy) from hme
      have gqU : m < yy := by rw [hme]; exact Nat.mod_lt _ (by omega)
      clear hme hm hX1 hX2 hUb
      obtain ⟨q2, hq2⟩ : ∃ a, m / y1 = a := ⟨_, rfl⟩
      obtain ⟨r2, hr2⟩ : ∃ a, m % y1 = a := ⟨_, rfl⟩
      obtain ⟨z2, hz2⟩ : ∃ a, q2 * y1 = a := ⟨_, rfl⟩
      have gqe : q2 * y1 + r2 = m := by rw [← hq2, ← hr2, Nat.mul_comm, Nat.div_add_mod]
      have gql : (m * 4294967296 + u0) / yy ≤ q2 := by rw [← hq2]; exact half_start HYY.out.1 (by omega) u0l
      have gqb : q2 ≤ 4294967297 := by rw [← hq2]; exact half_bound HYY.out.1 y1l y0l gqU
      have hr2l : r2 < y1 := by rw [← hr2]; exact Nat.mod_lt _ (by omega)
      have hq2I : (m : Int) / (y1 : Int) = (q2 : Int) := by rw [← hq2]; simp
      have hz2I : (q2 : Int) * (y1 : Int) = (z2 : Int) := by rw [← hz2]; simp
      have hr2I : (m : Int) - (z2 : Int) = (r2 : Int) := by rw [hz2] at gqe; omega
      have wq2 : IntKind.u64.wrap (q2 : Int) = (q2 : Int) := by rw [IntKind.wrap_u64]; omega
      have wz2 : IntKind.u64.wrap (z2 : Int) = (z2 : Int) := by rw [IntKind.wrap_u64]; rw [hz2] at gqe; omega
      have wr2 : IntKind.u64.wrap (r2 : Int) = (r2 : Int) := by rw [IntKind.wrap_u64]; omega
      clear hq2 hr2 hz2
      go_wp2_with fail
      go_loopw [18, 16] (fun p v wv => ∃ qB rB : Nat, p = .int .u64 (qB : Int) ∧ v = .int .u64 (rB : Int) ∧ Hid (qB * y1 + rB = m ∧ (m * 4294967296 + u0) / yy ≤ qB) ∧ qB ≤ 4294967297 ∧ rB < 4294967296 ∧ wv = wr) (fun p _ _ => (intOf p).toNat)
      case atStart => exact ⟨_, _, rfl, rfl, ⟨gqe, gql⟩, gqb, by omega, rfl⟩
      case round =>
        obtain ⟨qB, rB, rfl, rfl, hqr, hqb, hrb, rfl⟩ := hrel
        have hqy : qB * y0 < 18446744073709551616 := by
          have := Nat.mul_le_mul (show qB ≤ 4294967297 from hqb) (show y0 ≤ 4294967295 by omega)
          omega
        obtain ⟨qy, hqye⟩ : ∃ a, qB * y0 = a := ⟨_, rfl⟩
        have hqyI : (qB : Int) * (y0 : Int) = (qy : Int) := by rw [← hqye]; simp
        rw [hqye] at hqy
        obtain ⟨br, hbr⟩ : ∃ a, 4294967296 * rB = a := ⟨_, rfl⟩
        have hbrI : (4294967296 : Int) * (rB : Int) = (br : Int) := by omega
        obtain ⟨bu, hbu⟩ : ∃ a, br + u0 = a := ⟨_, rfl⟩
        have hbuI : (br : Int) + (u0 : Int) = (bu : Int) := by omega
        have wqy : IntKind.u64.wrap (qy : Int) = (qy : Int) := by rw [IntKind.wrap_u64]; omega
        have wbr : IntKind.u64.wrap (br : Int) = (br : Int) := by rw [IntKind.wrap_u64]; omega
        have wbu : IntKind.u64.wrap (bu : Int) = (bu : Int) := by rw [IntKind.wrap_u64]; omega
        have key : 4294967296 ≤ qB ∨ (qB < 4294967296 ∧ bu < qy) ∨ (qB < 4294967296 ∧ qy ≤ bu) := by omega
        rcases key with hk | hk | hk
        · have hk2 : (4294967296 : Int) ≤ (qB : Int) := by omega
          have hlt : (m * 4294967296 + u0) / yy < qB := half_wide (y1 := y1) (y0 := y0) gqU (by omega) hk HYY.out.1
          have hq0 : 0 < qB := Nat.lt_of_le_of_lt (Nat.zero_le _) hlt
          obtain ⟨qB', hq'⟩ : ∃ a, qB - 1 = a := ⟨_, rfl⟩
          have hq'I : (qB : Int) - 1 = (qB' : Int) := by omega
          have wq' : IntKind.u64.wrap (qB' : Int) = (qB' : Int) := by rw [IntKind.wrap_u64]; omega
          obtain ⟨rB', hr'⟩ : ∃ a, rB + y1 = a := ⟨_, rfl⟩
          have hr'I : (rB : Int) + (y1 : Int) = (rB' : Int) := by omega
          have wr' : IntKind.u64.wrap (rB' : Int) = (rB' : Int) := by rw [IntKind.wrap_u64]; omega
          have HQ' := show Hid (qB' * y1 + rB' = m ∧ (m * 4294967296 + u0) / yy ≤ qB') from by
            refine ⟨?_, by rw [← hq']; exact Nat.le_sub_one_of_lt hlt⟩
            rw [← hq', ← hr', Nat.sub_mul, Nat.one_mul]
            have h1 := hqr.out.1
            have h2 : 1 * y1 ≤ qB * y1 := Nat.mul_le_mul_right _ hq0
            omega
          have hq'b : qB' ≤ 4294967296 := by omega
          by_cases hrr : rB' < 4294967296
          · have hrr2 : ¬ (4294967296 : Int) ≤ (rB' : Int) := by omega
            have hq'q : qB' < qB := by omega
            clear hqye hbr hbu hq' hr' hqr hlt
            go_wp2_with fail
            go_roundw
            case rel => exact ⟨qB', rB', rfl, rfl, HQ'.out, by omega, hrr, by simp⟩
            case measure => simp [intOf]; omega
          · have hrr2 : (4294967296 : Int) ≤ (rB' : Int) := by omega
            have hfin : qB' = (m * 4294967296 + u0) / yy := half_done HYY.out.1 (by omega) HQ'.out.1 (half_out y0l hq'b (by omega) _) HQ'.out.2
            have HFB := show Hid (qB' = (m * 4294967296 + u0) / yy) from hfin
            clear hqye hbr hbu hq' hr' hqr hfin HQ' hlt
            obtain ⟨t1, t2⟩ := two_halves (U := U) (u1 := u1) (u0 := u0) (by omega) HFA.out HM.out HFB.out
            rw [HUV.out] at t1 t2
            obtain ⟨RR, hRR⟩ : ∃ a, (m * 4294967296 + u0) % yy = a := ⟨_, rfl⟩
            rw [hRR, HYY.out.2] at t2
            rw [HYY.out.2] at t1
            obtain ⟨d1, d2⟩ := div_scaled (hi := hi) (lo := lo) (y := y) (s := 2 ^ s) (Nat.pow_pos (by decide)) (by omega)
            rw [d1, HQR.out.1] at t1
            rw [← t2, HQR.out.2] at d2
            have hRl : RR < yy := by rw [← hRR]; exact Nat.mod_lt _ (by omega)
            obtain ⟨qb, hqbe⟩ : ∃ a, qA * 4294967296 = a := ⟨_, rfl⟩
            have hqbI : (qA : Int) * 4294967296 = (qb : Int) := by omega
            have hQQI : (qb : Int) + (qB' : Int) = (QQ : Int) := by omega
            have wqb : IntKind.u64.wrap (qb : Int) = (qb : Int) := by rw [IntKind.wrap_u64]; omega
            have wQQ : IntKind.u64.wrap (QQ : Int) = (QQ : Int) := by rw [IntKind.wrap_u64]; omega
            obtain ⟨Mb, hMb⟩ : ∃ a, m * 4294967296 % 18446744073709551616 = a := ⟨_, rfl⟩
            have wMb : IntKind.u64.wrap ((m : Int) * 4294967296) = (Mb : Int) := by rw [IntKind.wrap_u64]; omega
            obtain ⟨X3, hX3⟩ : ∃ a, (Mb + u0) % 18446744073709551616 = a := ⟨_, rfl⟩
            have wX3 : IntKind.u64.wrap ((Mb : Int) + (u0 : Int)) = (X3 : Int) := by rw [IntKind.wrap_u64]; omega
            obtain ⟨X4, hX4⟩ : ∃ a, qB' * yy % 18446744073709551616 = a := ⟨_, rfl⟩
            have wX4 : IntKind.u64.wrap ((qB' : Int) * (yy : Int)) = (X4 : Int) := by rw [Mul64.mulN, Mul64.wrapM, hX4]
            have hRe : (X3 + 18446744073709551616 - X4) % 18446744073709551616 = RR := by
              have h1 : X3 = (m * 4294967296 + u0) % 18446744073709551616 := by rw [← hX3, ← hMb, Nat.mod_add_mod]
              rw [← hRR, ← hX4, h1]
              exact half_left (by omega) hn2 HFB.out
            have wRR : IntKind.u64.wrap ((X3 : Int) - (X4 : Int)) = (RR : Int) := by rw [IntKind.wrap_u64]; omega
            have hremI : (RR : Int) / 2 ^ s = (rem : Int) := by rw [← d2]; simp
            clear t1 t2 d1 d2 hRR hqbe hMb hX3 hX4 hRe
            go_wp2_with fail
            go_ret2
            exact ⟨rfl, rfl⟩
        · have hk2 : ¬ (4294967296 : Int) ≤ (qB : Int) := by omega
          have hk3 : (bu : Int) < (qy : Int) := by omega
          have hlt : (m * 4294967296 + u0) / yy < qB := half_more HYY.out.1 hqr.out.1 (by rw [hqye]; omega)
          have hq0 : 0 < qB := Nat.lt_of_le_of_lt (Nat.zero_le _) hlt
          obtain ⟨qB', hq'⟩ : ∃ a, qB - 1 = a := ⟨_, rfl⟩
          have hq'I : (qB : Int) - 1 = (qB' : Int) := by omega
          have wq' : IntKind.u64.wrap (qB' : Int) = (qB' : Int) := by rw [IntKind.wrap_u64]; omega
          obtain ⟨rB', hr'⟩ : ∃ a, rB + y1 = a := ⟨_, rfl⟩
          have hr'I : (rB : Int) + (y1 : Int) = (rB' : Int) := by omega
          have wr' : IntKind.u64.wrap (rB' : Int) = (rB' : Int) := by rw [IntKind.wrap_u64]; omega
          have HQ' := show Hid (qB' * y1 + rB' = m ∧ (m * 4294967296 + u0) / yy ≤ qB') from by
            refine ⟨?_, by rw [← hq']; exact Nat.le_sub_one_of_lt hlt⟩
            rw [← hq', ← hr', Nat.sub_mul, Nat.one_mul]
            have h1 := hqr.out.1
            have h2 : 1 * y1 ≤ qB * y1 := Nat.mul_le_mul_right _ hq0
            omega
          have hq'b : qB' ≤ 4294967296 := by omega
          by_cases hrr : rB' < 4294967296
          · have hrr2 : ¬ (4294967296 : Int) ≤ (rB' : Int) := by omega
            have hq'q : qB' < qB := by omega
            clear hqye hbr hbu hq' hr' hqr hlt
            go_wp2_with fail
            go_roundw
            case rel => exact ⟨qB', rB', rfl, rfl, HQ'.out, by omega, hrr, by simp⟩
            case measure => simp [intOf]; omega
          · have hrr2 : (4294967296 : Int) ≤ (rB' : Int) := by omega
            have hfin : qB' = (m * 4294967296 + u0) / yy := half_done HYY.out.1 (by omega) HQ'.out.1 (half_out y0l hq'b (by omega) _) HQ'.out.2
            have HFB := show Hid (qB' = (m * 4294967296 + u0) / yy) from hfin
            clear hqye hbr hbu hq' hr' hqr hfin HQ' hlt
            obtain ⟨t1, t2⟩ := two_halves (U := U) (u1 := u1) (u0 := u0) (by omega) HFA.out HM.out HFB.out
            rw [HUV.out] at t1 t2
            obtain ⟨RR, hRR⟩ : ∃ a, (m * 4294967296 + u0) % yy = a := ⟨_, rfl⟩
            rw [hRR, HYY.out.2] at t2
            rw [HYY.out.2] at t1
            obtain ⟨d1, d2⟩ := div_scaled (hi := hi) (lo := lo) (y := y) (s := 2 ^ s) (Nat.pow_pos (by decide)) (by omega)
            rw [d1, HQR.out.1] at t1
            rw [← t2, HQR.out.2] at d2
            have hRl : RR < yy := by rw [← hRR]; exact Nat.mod_lt _ (by omega)
            obtain ⟨qb, hqbe⟩ : ∃ a, qA * 4294967296 = a := ⟨_, rfl⟩
            have hqbI : (qA : Int) * 4294967296 = (qb : Int) := by omega
            have hQQI : (qb : Int) + (qB' : Int) = (QQ : Int) := by omega
            have wqb : IntKind.u64.wrap (qb : Int) = (qb : Int) := by rw [IntKind.wrap_u64]; omega
            have wQQ : IntKind.u64.wrap (QQ : Int) = (QQ : Int) := by rw [IntKind.wrap_u64]; omega
            obtain ⟨Mb, hMb⟩ : ∃ a, m * 4294967296 % 18446744073709551616 = a := ⟨_, rfl⟩
            have wMb : IntKind.u64.wrap ((m : Int) * 4294967296) = (Mb : Int) := by rw [IntKind.wrap_u64]; omega
            obtain ⟨X3, hX3⟩ : ∃ a, (Mb + u0) % 18446744073709551616 = a := ⟨_, rfl⟩
            have wX3 : IntKind.u64.wrap ((Mb : Int) + (u0 : Int)) = (X3 : Int) := by rw [IntKind.wrap_u64]; omega
            obtain ⟨X4, hX4⟩ : ∃ a, qB' * yy % 18446744073709551616 = a := ⟨_, rfl⟩
            have wX4 : IntKind.u64.wrap ((qB' : Int) * (yy : Int)) = (X4 : Int) := by rw [Mul64.mulN, Mul64.wrapM, hX4]
            have hRe : (X3 + 18446744073709551616 - X4) % 18446744073709551616 = RR := by
              have h1 : X3 = (m * 4294967296 + u0) % 18446744073709551616 := by rw [← hX3, ← hMb, Nat.mod_add_mod]
              rw [← hRR, ← hX4, h1]
              exact half_left (by omega) hn2 HFB.out
            have wRR : IntKind.u64.wrap ((X3 : Int) - (X4 : Int)) = (RR : Int) := by rw [IntKind.wrap_u64]; omega
            have hremI : (RR : Int) / 2 ^ s = (rem : Int) := by rw [← d2]; simp
            clear t1 t2 d1 d2 hRR hqbe hMb hX3 hX4 hRe
            go_wp2_with fail
            go_ret2
            exact ⟨rfl, rfl⟩
        · have hk2 : ¬ (4294967296 : Int) ≤ (qB : Int) := by omega
          have hk3 : ¬ (bu : Int) < (qy : Int) := by omega
          have hfin : qB = (m * 4294967296 + u0) / yy := half_done HYY.out.1 (by omega) hqr.out.1 (by rw [hqye]; omega) hqr.out.2
          have HFB := show Hid (qB = (m * 4294967296 + u0) / yy) from hfin
          clear hqye hbr hbu hqr hfin
          obtain ⟨t1, t2⟩ := two_halves (U := U) (u1 := u1) (u0 := u0) (by omega) HFA.out HM.out HFB.out
          rw [HUV.out] at t1 t2
          obtain ⟨RR, hRR⟩ : ∃ a, (m * 4294967296 + u0) % yy = a := ⟨_, rfl⟩
          rw [hRR, HYY.out.2] at t2
          rw [HYY.out.2] at t1
          obtain ⟨d1, d2⟩ := div_scaled (hi := hi) (lo := lo) (y := y) (s := 2 ^ s) (Nat.pow_pos (by decide)) (by omega)
          rw [d1, HQR.out.1] at t1
          rw [← t2, HQR.out.2] at d2
          have hRl : RR < yy := by rw [← hRR]; exact Nat.mod_lt _ (by omega)
          obtain ⟨qb, hqbe⟩ : ∃ a, qA * 4294967296 = a := ⟨_, rfl⟩
          have hqbI : (qA : Int) * 4294967296 = (qb : Int) := by omega
          have hQQI : (qb : Int) + (qB : Int) = (QQ : Int) := by omega
          have wqb : IntKind.u64.wrap (qb : Int) = (qb : Int) := by rw [IntKind.wrap_u64]; omega
          have wQQ : IntKind.u64.wrap (QQ : Int) = (QQ : Int) := by rw [IntKind.wrap_u64]; omega
          obtain ⟨Mb, hMb⟩ : ∃ a, m * 4294967296 % 18446744073709551616 = a := ⟨_, rfl⟩
          have wMb : IntKind.u64.wrap ((m : Int) * 4294967296) = (Mb : Int) := by rw [IntKind.wrap_u64]; omega
          obtain ⟨X3, hX3⟩ : ∃ a, (Mb + u0) % 18446744073709551616 = a := ⟨_, rfl⟩
          have wX3 : IntKind.u64.wrap ((Mb : Int) + (u0 : Int)) = (X3 : Int) := by rw [IntKind.wrap_u64]; omega
          obtain ⟨X4, hX4⟩ : ∃ a, qB * yy % 18446744073709551616 = a := ⟨_, rfl⟩
          have wX4 : IntKind.u64.wrap ((qB : Int) * (yy : Int)) = (X4 : Int) := by rw [Mul64.mulN, Mul64.wrapM, hX4]
          have hRe : (X3 + 18446744073709551616 - X4) % 18446744073709551616 = RR := by
            have h1 : X3 = (m * 4294967296 + u0) % 18446744073709551616 := by rw [← hX3, ← hMb, Nat.mod_add_mod]
            rw [← hRR, ← hX4, h1]
            exact half_left (by omega) hn2 HFB.out
          have wRR : IntKind.u64.wrap ((X3 : Int) - (X4 : Int)) = (RR : Int) := by rw [IntKind.wrap_u64]; omega
          have hremI : (RR : Int) / 2 ^ s = (rem : Int) := by rw [← d2]; simp
          clear t1 t2 d1 d2 hRR hqbe hMb hX3 hX4 hRe
          go_wp2_with fail
          go_ret2
          exact ⟨rfl, rfl⟩
end Go.Proofs.YtpcmpeeflnlkpaaDoor
