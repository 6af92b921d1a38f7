/-
  The document's shift, rot, low, root.
  The document's words, reckoned.
  Appends onto one row while another is kept: where the row lies afterwards. Of no layer alone.
-/
import Derived.Test.YtgehgcnaoapbbaaDoorVBelow
import Derived.Test.YtgehgcnaoapbbaaDoorUGen
namespace Go.Proofs.YtgehgcnaoapbbaaDoor
open Go.RowKit Ch
set_option maxRecDepth 100000

set_option maxHeartbeats 1000000 in
theorem vShift_any (n : Nat) (w : World) (hn : n ≤ 40) : Calls Tryd.prog 38 #[.int .i64 (n : Int)] w fun e w' => e = .returned (.int .u64 ((2 ^ n : Nat) : Int)) ∧ w' = w := by
  go_enter Tryd.func38, Tryd.ntmps38
  go_wp2_with fail
  go_loopw [3, 4] (fun u t wr => ∃ i X : Nat, i ≤ n ∧ t = .int .i64 (i : Int) ∧ u = .int .u64 (X : Int) ∧ Hid (X = 2 ^ i) ∧ wr = w) (fun _ t _ => n - (intOf t).toNat)
  case atStart => exact ⟨0, 1, by omega, rfl, rfl, rfl, rfl⟩
  case round =>
    obtain ⟨i, X, hi, rfl, rfl, hX, rfl⟩ := hrel
    by_cases hlt : i < n
    · have hlt2 : (i : Int) < (n : Int) := by omega
      have hb : X ≤ 2 ^ 40 := by rw [hX.out]; exact Nat.pow_le_pow_right (by decide) (by omega)
      obtain ⟨Y, hY⟩ : ∃ Y, X * 2 = Y := ⟨_, rfl⟩
      have e1 : IntKind.u64.wrap ((X : Int) * 2) = (Y : Int) := by rw [wrap_u64]; omega
      have HY := show Hid (Y = 2 ^ (i + 1)) from by unfold Hid; rw [← hY, hX.out, Nat.pow_succ]
      clear hX hY
      go_wp2_with fail
      go_roundw
      case rel => exact ⟨i + 1, Y, by omega, by go_num, rfl, HY.out, trivial⟩
      case measure => simp [intOf]; omega
    · have hlt2 : ¬ (i : Int) < (n : Int) := by omega
      obtain rfl : i = n := by omega
      go_wp2_with fail
      go_ret
      exact ⟨by rw [hX.out]; rfl, rfl⟩
/-- Rotated by one so many times. -/
def rotI (x : Nat) : Nat → Nat
  | 0 => x
  | n + 1 => rotI x n / 2 + rotI x n % 2 * 2147483648
theorem rotI_lt {x : Nat} (h : x < 4294967296) : ∀ n, rotI x n < 4294967296
  | 0 => h
  | n + 1 => by have := rotI_lt h n; rw [rotI]; omega
set_option maxHeartbeats 1000000 in
theorem vRot_raw (x n : Nat) (w : World) (hx : x < 4294967296) (hn : n ≤ 1000) : Calls Tryd.prog 23 #[.int .u32 (x : Int), .int .i64 (n : Int)] w fun e w' => e = .returned (.int .u32 (rotI x n : Int)) ∧ w' = w := by
  go_enter Tryd.func23, Tryd.ntmps23
  go_wp2_with fail
  go_loopw [0, 5] (fun u t wr => ∃ i : Nat, i ≤ n ∧ t = .int .i64 (i : Int) ∧ u = .int .u32 (rotI x i : Int) ∧ wr = w) (fun _ t _ => n - (intOf t).toNat)
  case atStart => exact ⟨0, by omega, rfl, rfl, rfl⟩
  case round =>
    obtain ⟨i, hi, rfl, rfl, rfl⟩ := hrel
    by_cases hlt : i < n
    · have hlt2 : (i : Int) < (n : Int) := by omega
      have hX := rotI_lt hx i
      have HS := show Hid (rotI x (i + 1) = rotI x i / 2 + rotI x i % 2 * 2147483648) from rfl
      generalize rotI x i = X at *
      obtain ⟨q, hq⟩ : ∃ q, X / 2 = q := ⟨_, rfl⟩
      obtain ⟨r, hr⟩ : ∃ r, X % 2 = r := ⟨_, rfl⟩
      obtain ⟨m, hm⟩ : ∃ m, r * 2147483648 = m := ⟨_, rfl⟩
      obtain ⟨y, hy⟩ : ∃ y, q + m = y := ⟨_, rfl⟩
      have e1 : (X : Int).tdiv 2 = (q : Int) := by rw [← hq, Int.tdiv_eq_ediv_of_nonneg (by omega)]; omega
      have e2 : (X : Int).tmod 2 = (r : Int) := by rw [← hr, Int.tmod_eq_emod_of_nonneg (by omega)]; omega
      have e3 : IntKind.u32.wrap ((r : Int) * 2147483648) = (m : Int) := by rw [IntKind.wrap_u32]; omega
      have e4 : IntKind.u32.wrap ((q : Int) + (m : Int)) = (y : Int) := by rw [IntKind.wrap_u32]; omega
      have hq2 : q < 4294967296 := by omega
      have hr2 : r < 2 := by omega
      have HY := show Hid (y = rotI x (i + 1)) from by unfold Hid; rw [HS.out, hq, hr, hm, hy]
      clear hq hr hm hy HS
      go_wp2_with fail
      go_roundw
      case rel => exact ⟨i + 1, by omega, by go_num, by rw [HY.out], trivial⟩
      case measure => simp [intOf]; omega
    · have hlt2 : ¬ (i : Int) < (n : Int) := by omega
      obtain rfl : i = n := by omega
      go_wp2_with fail
      go_ret
      exact ⟨rfl, rfl⟩
theorem rotI_eq {x : Nat} (hx : x < 4294967296) : ∀ n, n ≤ 32 → rotI x n = x % 2 ^ n * 2 ^ (32 - n) + x / 2 ^ n
  | 0, _ => by simp [rotI, Nat.mod_one]
  | n + 1, h => by
    have ih := rotI_eq hx n (by omega)
    rw [rotI, ih]
    have e1 : 2 ^ (32 - n) = 2 * 2 ^ (32 - (n + 1)) := by rw [show 32 - n = (32 - (n + 1)) + 1 by omega, Nat.pow_succ, Nat.mul_comm]
    have e2 : x / 2 ^ (n + 1) = x / 2 ^ n / 2 := by rw [Nat.pow_succ, Nat.div_div_eq_div_mul]
    have e3 : x % 2 ^ (n + 1) = x % 2 ^ n + 2 ^ n * (x / 2 ^ n % 2) := by rw [Nat.pow_succ, Nat.mod_mul]
    have e4 : (2147483648 : Nat) = 2 ^ n * 2 ^ (32 - (n + 1)) := by rw [← Nat.pow_add, show n + (32 - (n + 1)) = 31 by omega]
    rw [e1, e2, e3, e4]
    generalize 2 ^ (32 - (n + 1)) = P
    generalize x % 2 ^ n = A
    generalize x / 2 ^ n = B
    generalize 2 ^ n = C
    have h1 : A * (2 * P) + B = 2 * (A * P) + B := by rw [Nat.mul_left_comm]
    rw [h1, Nat.add_mul]
    have h2 : (2 * (A * P) + B) / 2 = A * P + B / 2 := by omega
    have h3 : (2 * (A * P) + B) % 2 = B % 2 := by omega
    rw [h2, h3, Nat.mul_comm C (B % 2), Nat.mul_assoc]
    omega
theorem rotI_rotr {x : Nat} (hx : x < 4294967296) {n : Nat} (h : n ≤ 32) : rotI x n = rotr n x := by
  rw [rotI_eq hx n h]
  unfold rotr
  have e1 : x * 2 ^ (32 - n) % 4294967296 = 2 ^ (32 - n) * (x % 2 ^ n) := by
    have : (4294967296 : Nat) = 2 ^ n * 2 ^ (32 - n) := by rw [← Nat.pow_add, show n + (32 - n) = 32 by omega]
    rw [this, Nat.mul_mod_mul_right, Nat.mul_comm]
  have e2 : x / 2 ^ n < 2 ^ (32 - n) := by
    rw [Nat.div_lt_iff_lt_mul (Nat.two_pow_pos n), ← Nat.pow_add, show 32 - n + n = 32 by omega]
    exact hx
  rw [e1, ← Nat.two_pow_add_eq_or_of_lt e2, Nat.mul_comm]
theorem vRot_any (x n : Nat) (w : World) (hx : x < 4294967296) (hn : n ≤ 32) : Calls Tryd.prog 23 #[.int .u32 (x : Int), .int .i64 (n : Int)] w fun e w' => e = .returned (.int .u32 (rotr n x : Int)) ∧ w' = w := by
  rw [← rotI_rotr hx hn]
  exact vRot_raw x n w hx (by omega)
set_option maxHeartbeats 1000000 in
theorem vLow_any (x n : Nat) (w : World) (hx : x < 4294967296) (hn : n ≤ 32) : Calls Tryd.prog 24 #[.int .u32 (x : Int), .int .i64 (n : Int)] w fun e w' => e = .returned (.int .u32 ((x / 2 ^ n : Nat) : Int)) ∧ w' = w := by
  go_enter Tryd.func24, Tryd.ntmps24
  go_wp2_with fail
  go_loopw [0, 5] (fun u t wr => ∃ i X : Nat, i ≤ n ∧ t = .int .i64 (i : Int) ∧ u = .int .u32 (X : Int) ∧ X < 4294967296 ∧ Hid (X = x / 2 ^ i) ∧ wr = w) (fun _ t _ => n - (intOf t).toNat)
  case atStart => exact ⟨0, x, by omega, rfl, rfl, hx, by unfold Hid; rw [Nat.pow_zero, Nat.div_one], rfl⟩
  case round =>
    obtain ⟨i, X, hi, rfl, rfl, hX, hXe, rfl⟩ := hrel
    by_cases hlt : i < n
    · have hlt2 : (i : Int) < (n : Int) := by omega
      obtain ⟨q, hq⟩ : ∃ q, X / 2 = q := ⟨_, rfl⟩
      have e1 : (X : Int).tdiv 2 = (q : Int) := by rw [← hq, Int.tdiv_eq_ediv_of_nonneg (by omega)]; omega
      have hq2 : q < 4294967296 := by omega
      have HY := show Hid (q = x / 2 ^ (i + 1)) from by unfold Hid; rw [← hq, hXe.out, Nat.pow_succ, Nat.div_div_eq_div_mul]
      clear hq hXe
      go_wp2_with fail
      go_roundw
      case rel => exact ⟨i + 1, q, by omega, by go_num, rfl, hq2, HY.out, trivial⟩
      case measure => simp [intOf]; omega
    · have hlt2 : ¬ (i : Int) < (n : Int) := by omega
      obtain rfl : i = n := by omega
      go_wp2_with fail
      go_ret
      exact ⟨by rw [hXe.out]; rfl, rfl⟩
/-- The root's bits, the first n of 37. -/
def rootI (p : Nat) (cube : Bool) : Nat → Nat
  | 0 => 0
  | n + 1 => if belowN (rootI p cube n + 2 ^ (36 - n)) p cube then rootI p cube n + 2 ^ (36 - n) else rootI p cube n
def rootN (p : Nat) (cube : Bool) : Nat := rootI p cube 37 % 4294967296
theorem rootI_lt (p : Nat) (cube : Bool) : ∀ n, n ≤ 37 → rootI p cube n + 2 ^ (37 - n) ≤ 2 ^ 37
  | 0, _ => by simp [rootI]
  | n + 1, h => by
    have ih := rootI_lt p cube n (by omega)
    have e : 2 ^ (37 - n) = 2 ^ (37 - (n + 1)) + 2 ^ (37 - (n + 1)) := by rw [show 37 - n = (37 - (n + 1)) + 1 by omega, Nat.pow_succ, Nat.mul_two]
    have e2 : 36 - n = 37 - (n + 1) := by omega
    rw [rootI, e2]
    generalize 2 ^ (37 - (n + 1)) = A at *
    rw [e] at ih
    split <;> omega
set_option maxHeartbeats 2000000 in
theorem vRoot_any (p : Nat) (cube : Bool) (w : World) (hp : p < 18446744073709551616) :
    Calls Tryd.prog 31 #[.int .u64 (p : Int), .bool cube] w fun e w' => e = .returned (.int .u32 (rootN p cube : Int)) ∧ Below w.heap.size w w' := by
  go_enter Tryd.func31, Tryd.ntmps31
  go_wp2_with fail
  go_loopw [5, 6] (fun u t wr => ∃ (i X : Nat) (z : Int), i ≤ 37 ∧ Hid (z = 36 - (i : Int)) ∧ t = .int .i64 z ∧ u = .int .u64 (X : Int) ∧ Hid (X = rootI p cube i) ∧ Below w.heap.size w wr) (fun _ t _ => (intOf t + 1).toNat)
  case atStart => exact ⟨0, 0, 36, by omega, by unfold Hid; omega, rfl, rfl, rfl, Below.refl _ _⟩
  case round =>
    obtain ⟨i, X, z, hi, hz, rfl, rfl, hX, hb⟩ := hrel
    have hlt37 := rootI_lt p cube i hi
    rw [← hX.out] at hlt37
    by_cases hlt : i < 37
    · obtain ⟨b, hbe⟩ : ∃ b : Nat, b = 36 - i := ⟨_, rfl⟩
      have hzb : z = (b : Int) := by have := hz.out; omega
      subst hzb
      have h36 : b ≤ 36 := by omega
      have hge : (0 : Int) ≤ (b : Int) := by omega
      have hpw : 2 ^ b < 2 ^ 37 := Nat.pow_lt_pow_right (by decide) (by omega)
      obtain ⟨T, hT⟩ : ∃ T, 2 ^ b = T := ⟨_, rfl⟩
      obtain ⟨Y, hY⟩ : ∃ Y, X + T = Y := ⟨_, rfl⟩
      have hXl : X < 2 ^ 37 := by have := Nat.two_pow_pos (37 - i); omega
      rw [hT] at hpw
      have e1 : IntKind.u64.wrap ((X : Int) + (T : Int)) = (Y : Int) := by rw [wrap_u64]; omega
      have hYl : Y < 18446744073709551616 := by omega
      have HS := show Hid (rootI p cube (i + 1) = if belowN Y p cube then Y else X) from by unfold Hid; rw [rootI, ← hX.out, ← hbe, hT, hY]
      have hsh := vShift_any b wr (by omega)
      rw [hT] at hsh
      have HBI := show Hid (b = 36 - i) from hbe
      clear hX hT hY hbe hlt37 hpw hz
      go_wp2_with fail
      refine hsh.mono ?_
      rintro e w1 ⟨rfl, rfl⟩
      obtain ⟨R, hR⟩ : ∃ R, belowN Y p cube = R := ⟨_, rfl⟩
      have hbl := vBelow_any Y p cube w1 hYl hp
      rw [hR] at hbl
      rw [hR] at HS
      clear hR hsh
      go_wp2_with fail
      refine hbl.mono ?_
      rintro e w2 ⟨rfl, hb2⟩
      have hb3 := hb.trans (hb2.mono hb.size)
      clear hbl hb2
      cases R
      · have hq := HS.out
        simp only [Bool.false_eq_true, if_false] at hq
        have HQ := show Hid (X = rootI p cube (i + 1)) from hq.symm
        clear hq HS
        go_wp2_with fail
        go_roundw
        case rel => exact ⟨i + 1, X, (b : Int) - 1, by omega, by unfold Hid; have := HBI.out; omega, by go_num, rfl, HQ.out, hb3⟩
        case measure => first | (simp [intOf]; done) | (simp [intOf]; omega)
      · have hq := HS.out
        simp only [if_true] at hq
        have HQ := show Hid (Y = rootI p cube (i + 1)) from hq.symm
        clear hq HS
        go_wp2_with fail
        go_roundw
        case rel => exact ⟨i + 1, Y, (b : Int) - 1, by omega, by unfold Hid; have := HBI.out; omega, by go_num, rfl, HQ.out, hb3⟩
        case measure => first | (simp [intOf]; done) | (simp [intOf]; omega)
    · obtain rfl : i = 37 := by omega
      have hz1 : z = -1 := by have := hz.out; omega
      clear hz
      subst hz1
      have hneg : ¬ (0 : Int) ≤ -1 := by omega
      obtain ⟨m, hm⟩ : ∃ m, X % 4294967296 = m := ⟨_, rfl⟩
      have e1 : (X : Int).tmod 4294967296 = (m : Int) := by rw [← hm, Int.tmod_eq_emod_of_nonneg (by omega)]; omega
      have hm2 : m < 4294967296 := by omega
      have HR := show Hid (rootN p cube = m) from by unfold Hid rootN; rw [← hX.out, hm]
      have hXl : X < 2 ^ 37 := by have := Nat.two_pow_pos (37 - 37); omega
      have hw32 : IntKind.u32.wrap (m : Int) = (m : Int) := by rw [IntKind.wrap_u32]; omega
      clear hX hm hlt37
      go_wp2_with fail
      go_ret
      exact ⟨by rw [HR.out]; rfl, hb⟩
end Go.Proofs.YtgehgcnaoapbbaaDoor

namespace Go.Proofs.YtgehgcnaoapbbaaDoor
open Go.RowKit Ch
set_option maxRecDepth 100000

/-- The primes below j + 2. -/
def prK : Nat → List Nat
  | 0 => []
  | j + 1 => if (prK j).all (fun d => (j + 2) % d != 0) then prK j ++ [j + 2] else prK j
theorem prK_310 : (prK 310).length = 64 := by decide +kernel
theorem prK_309 : (prK 309).length = 63 := by decide +kernel
theorem prK_mono (i j : Nat) (h : i ≤ j) : (prK i).length ≤ (prK j).length := by
  induction j with
  | zero => rw [show i = 0 by omega]; exact Nat.le_refl _
  | succ j ih =>
    by_cases hij : i = j + 1
    · rw [hij]; exact Nat.le_refl _
    · have := ih (by omega)
      have h2 : (prK j).length ≤ (prK (j + 1)).length := by
        rw [prK]
        split
        · rw [List.length_append]; omega
        · exact Nat.le_refl _
      omega
theorem prK_pos (j : Nat) : ∀ d ∈ prK j, 2 ≤ d ∧ d < j + 2 := by
  induction j with
  | zero => intro d hd; cases hd
  | succ j ih =>
    intro d hd
    rw [prK] at hd
    split at hd
    · rcases List.mem_append.1 hd with h | h
      · have := ih d h; omega
      · simp at h; omega
    · have := ih d hd; omega
end Go.Proofs.YtgehgcnaoapbbaaDoor

namespace Go.Proofs.YtgehgcnaoapbbaaDoor
open Go.RowKit Ch
set_option maxRecDepth 100000

theorem run_append_where {P : Program} (w : World) (base : Nat) (t ty e : TypeId) (i : TypeInfo) (z : Value) (bytes : Nat) (ht : P.underlying t = some (.slice e)) (hi : P.info? e = some i) (hz : i.zero = some z)
    (hsize : i.size = 1) (hby : i.bytes = bytes) (hzs : z.cells.size = 1)
    (v : Value) (n : Nat) (xs : List Value) (hown : w.ownsRow base e 1 v n xs)
    (a : Addr) (m c : Nat) (news : List Value) (hl : news.length = m * 1) (hnews : ∀ j u, news[j]? = some u → w.cell? (a.add j) = some u) (h1 : ∀ u ∈ news, u.oneCell' = true)
    (h63 : n + m ≤ maxLen) (hbytes : (n + m) * bytes ≤ 140737488355328) (hbase : base ≤ w.heap.size) (hm : 0 < m) :
    ∃ v' w', (Builtin.append_ #[t, t] ty #[v, .slice (some a) m c]).run P w = .ok v' w' ∧ w'.ownsRow base e 1 v' (n + m) (xs ++ news) ∧ w.grownBy w' v.ownBlock ∧ (v'.ownBlock = v.ownBlock ∨ v'.ownBlock = some w.heap.size) := by
  obtain ⟨v', w', hr, h2, h3, _⟩ := run_append_own (P := P) w base t ty e i z 1 bytes ht hi hz hsize hby hzs (by decide) v n xs hown a m c news hl hnews h1 h63 hbytes hbase
  refine ⟨v', w', hr, h2, h3, ?_⟩
  have hsmall : n + m ≤ 9223372036854775807 := by simp only [maxLen] at h63; omega
  have hl' : news.length = m * i.size := by rw [hsize]; exact hl
  have hbytes' : (n + m) * i.bytes ≤ 140737488355328 := by rw [hby]; exact hbytes
  rcases hown.2 with ⟨hv, hn⟩ | ⟨g, cap, cur, hv, hbg, hg, hnc, hcm, hcs, htake⟩
  · subst hv hn
    have hr2 := run_append_nil (P := P) w t ty e i z ht hi hz a m c news hl' hnews hm (by omega) (by have hb := hbytes'; simp only [Nat.zero_add] at hb; omega)
    rw [hr] at hr2
    simp only [Result.ok.injEq] at hr2
    rw [hr2.1]
    exact .inr rfl
  · subst hv
    by_cases hroom : n + m ≤ cap
    · have hr2 := run_append_room (P := P) w t ty e i ht hi g n cap cur hg a m c news hl' hnews h1 hroom (by rw [hl, hcs, hsize]; omega)
      rw [hr] at hr2
      simp only [Result.ok.injEq] at hr2
      rw [hr2.1]
      exact .inl rfl
    · have hr2 := run_append_grow (P := P) w t ty e i z ht hi hz ⟨g, 0, none⟩ n cap xs (by rw [hsize]; exact hown.1) (hown.cells (g := g) rfl) a m c news hl' hnews (by omega) (by omega) (growslice_fits (by omega) hbytes')
      rw [hr] at hr2
      simp only [Result.ok.injEq] at hr2
      rw [hr2.1]
      exact .inr rfl
theorem wpList_append_where {P : Program} (w : World) {ops : Array Oper} {rest : List Oper} {o : Oper} {ac : Act} {Q : Exit → Act → World → Prop} (hgd : o.guard = none) (s x : Operand) (t : TypeId)
    (ho : o.op = .call { callee := .builtin .append, args := #[s, x], argTypes := #[t, t] })
    (base : Nat) (e : TypeId) (i : TypeInfo) (z : Value) (bytes : Nat) (ht : P.underlying t = some (.slice e)) (hi : P.info? e = some i) (hz : i.zero = some z)
    (hsize : i.size = 1) (hby : i.bytes = bytes) (hzs : z.cells.size = 1)
    (v : Value) (n : Nat) (xs : List Value) (hs : ac.eval s = v) (hown : w.ownsRow base e 1 v n xs)
    (ad : Addr) (m c : Nat) (news : List Value) (hx : ac.eval x = .slice (some ad) m c) (hl : news.length = m * 1) (hnews : ∀ j u, news[j]? = some u → w.cell? (ad.add j) = some u) (h1 : ∀ u ∈ news, u.oneCell' = true)
    (h63 : n + m ≤ maxLen) (hbytes : (n + m) * bytes ≤ 140737488355328) (hbase : base ≤ w.heap.size) (hm : 0 < m)
    (h : ∀ v' w', w'.ownsRow base e 1 v' (n + m) (xs ++ news) → w.grownBy w' v.ownBlock → (v'.ownBlock = v.ownBlock ∨ v'.ownBlock = some w.heap.size) → wpList P ops Q rest (ac.put o.dst v') w') : wpList P ops Q (o :: rest) ac w := by
  refine wpList_plain hgd fun K hK => ?_
  obtain ⟨v', w', hr, h2, h3, h4⟩ := run_append_where (P := P) w base t o.type e i z bytes ht hi hz hsize hby hzs v n xs hown ad m c news hl hnews h1 h63 hbytes hbase hm
  unfold Oper.wp execOp
  simp only [ho, resolve, invoke, builtin, Sem.run_bind, Sem.run_pure, Result.andThen_ok, List.map_toArray, List.map_cons, List.map_nil, hs, hx, hr]
  exact hK _ _ (h v' w' h2 h3 h4)
theorem IsN.cellIn {k : IntKind} {w : World} {b o m cap : Nat} {L : List Nat} (h : IsN k w (.slice (some ⟨b, o, none⟩) m cap) L) {i n : Nat} (hn : L[i]? = some n) : w.cell? ⟨b, o + i, none⟩ = some (.int k (n : Int)) := by
  obtain ⟨_, b', o', hx, _, g⟩ := IsN.cellAt h hn
  simp only [Option.some.injEq, Addr.mk.injEq, and_true] at hx
  rw [hx.1, hx.2]; exact g
/-- Two rows that lie apart. -/
def Apart (v u : Value) : Prop := ∀ k, v.ownBlock = some k → u.ownBlock ≠ some k
theorem Apart.symm {v u : Value} (h : Apart v u) : Apart u v := fun k h1 h2 => h k h2 h1
theorem apart_nil (u : Value) : Apart (.slice none 0 0) u := fun k h => by cases h
/-- append of one number, with another row kept. -/
theorem wpList_append_two (R : KR) {w0 wr : World} {ops : Array Oper} {rest : List Oper} {o : Oper} {ac : Act} {Q : Exit → Act → World → Prop} (hgd : o.guard = none) (so x : Operand)
    (ho : o.op = .call { callee := .builtin .append, args := #[so, x], argTypes := #[R.ts, R.ts] })
    (base : Nat) (v : Value) (acc : List Nat) (hs : ac.eval so = v) (hown : wr.ownsRow base R.e 1 v acc.length (kc R.k acc))
    (z : Int) (hx : ac.eval x = .slice (some ⟨wr.heap.size, 0, none⟩) 1 1) (c : Nat) (hc : Hid (z = (c : Int))) (acc' : List Nat) (he : Hid (acc ++ [c] = acc')) (hlen : acc.length ≤ 1000000) (hbase : base ≤ wr.heap.size) (hb : Below base w0 wr)
    (e2 : TypeId) (size2 n2 : Nat) (u : Value) (xs : List Value) (hother : wr.ownsRow base e2 size2 u n2 xs) (hap : Apart v u)
    (h : ∀ v' w', w'.ownsRow base R.e 1 v' acc'.length (kc R.k acc') → Below base w0 w' → w'.ownsRow base e2 size2 u n2 xs → Apart v' u → wpList Tryd.prog ops Q rest (ac.put o.dst v') w') :
    wpList Tryd.prog ops Q (o :: rest) ac (wr.alloc (.cells #[.int R.k z] R.e)) := by
  obtain ⟨i0, hi, hz0, hz1, hz2⟩ := info_parts R.hi
  have h8 := R.hb8
  refine wpList_append_where _ hgd _ _ R.ts ho base R.e i0 (.int R.k 0) R.size R.hu hi hz0 hz1 hz2 rfl v _ _ hs (hown.alloc _) ⟨wr.heap.size, 0, none⟩ 1 1 [_] hx rfl (cell_one_new _ _ _) (by intro u hu; simp at hu; subst hu; rfl) (by unfold maxLen; omega) (Nat.le_trans (Nat.mul_le_mul_left _ h8) (by omega)) (by simp; omega) (by decide) ?_
  intro v' w2 hown2 hgrow hwhere
  have hb2 := below_grown hb hbase hown hgrow
  rw [hc.out] at hown2
  have e : kc R.k acc ++ [Value.int R.k (c : Int)] = kc R.k acc' := by rw [← he.out, kc_append]; rfl
  have e2' : acc.length + 1 = acc'.length := by rw [← he.out]; simp
  rw [e, e2'] at hown2
  have hlt := World.ownsRow.lt hother
  refine h v' w2 hown2 hb2 ((hother.alloc _).kept hgrow ?_) ?_
  · rcases hu : u.ownBlock with _ | k
    · exact .inl rfl
    · exact .inr (fun hh => hap k hh.symm hu)
  · intro k hk hu
    rcases hwhere with h1 | h1
    · exact hap k (by rw [← h1]; exact hk) hu
    · rw [h1] at hk
      have := (hlt k hu).2
      simp at hk
      omega
end Go.Proofs.YtgehgcnaoapbbaaDoor
