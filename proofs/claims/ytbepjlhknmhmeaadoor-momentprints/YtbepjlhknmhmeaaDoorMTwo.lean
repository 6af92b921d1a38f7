/-
  The reference of layer 10: two.
-/
import Derived.Test.YtbepjlhknmhmeaaDoorMLit
import Derived.Test.YtbepjlhknmhmeaaDoorMRd
namespace Go.Proofs.YtbepjlhknmhmeaaDoor
open Go.RowKit Ch
set_option maxRecDepth 100000

theorem padL_cons : ∀ (i n : Nat), padL (i + 1) n = UInt8.ofNat (48 + n / 10 ^ i % 10) :: padL i n
  | 0, n => by
    rw [Nat.pow_zero, Nat.div_one]
    rfl
  | i + 1, n => by
    rw [padL, padL_cons i (n / 10), Nat.div_div_eq_div_mul, Nat.mul_comm 10 (10 ^ i), ← Nat.pow_succ, List.cons_append]
    rfl
theorem conv_u8 (c : UInt8) : IntKind.u8.wrap (c.toNat : Int) = (c.toNat : Int) := by
  rw [IntKind.wrap_u8]
  have := c.toNat_lt
  omega
set_option maxHeartbeats 4000000 in
theorem rmTwo_any (n k : Nat) (w : World) (hn : n < 100000000) (hk : k ≤ 8) : Calls Tryd.prog 30 #[.int .i64 (n : Int), .int .i64 (k : Int)] w fun e w' => e = .returned (.string ⟨(padL k n).toArray⟩) ∧ Below w.heap.size w w' := by
  go_enter Tryd.func30, Tryd.ntmps30
  go_wp2_with fail
  go_loopw [0, 5, 6] (fun a s t wr => ∃ (j b : Nat) (l : List UInt8), a = .int .i64 (b : Int) ∧ s = .string ⟨l.toArray⟩ ∧ t = .int .i64 (j : Int) ∧ j ≤ k ∧ b < 100000000 ∧ l.length = j ∧ Hid (b = n / 10 ^ j ∧ l = padL j n ∧ Below w.heap.size w wr)) (fun _ _ t _ => k - (intOf t).toNat)
  case atStart => exact ⟨0, n, [], rfl, rfl, rfl, Nat.zero_le _, hn, rfl, ⟨by rw [Nat.pow_zero, Nat.div_one], rfl, Below.refl _ _⟩⟩
  case round =>
    obtain ⟨j, b, l, rfl, rfl, rfl, hj, hb, hl, hx⟩ := hrel
    by_cases hlt : j < k
    · have i1 : (j : Int) < (k : Int) := by omega
      obtain ⟨c, hc⟩ : ∃ c, UInt8.ofNat (48 + b % 10) = c := ⟨_, rfl⟩
      have e1 : 48 + (b : Int) % 10 = (c.toNat : Int) := by rw [← hc, digit_toNat]; omega
      have e2 := conv_u8 c
      have HX := show Hid (b / 10 = n / 10 ^ (j + 1) ∧ c :: l = padL (j + 1) n) from by
        obtain ⟨x1, x2, _⟩ := hx.out
        refine ⟨by rw [x1, Nat.div_div_eq_div_mul, ← Nat.pow_succ], ?_⟩
        rw [padL_cons, ← x1, ← x2, hc]
      have HB0 := show Hid (Below w.heap.size w wr) from hx.out.2.2
      have hcv := lit_conv wr [c] #[.int .u8 (c.toNat : Int)] rfl 1 rfl (by unfold maxLen; decide)
      have b3 := alB wr (.cells #[.int .u8 (c.toNat : Int)] 5)
      obtain ⟨W3, hW3⟩ : ∃ W, wr.alloc (.cells #[.int .u8 (c.toNat : Int)] 5) = W := ⟨_, rfl⟩
      rw [hW3] at hcv b3
      have HB := show Hid (Below w.heap.size w W3) from bl2 HB0.out b3
      have wj : IntKind.i64.wrap ((j : Int) + 1) = ((j + 1 : Nat) : Int) := by rw [IntKind.wrap_i64]; omega
      clear b3 HB0 hx hc
      go_wp2_with fail
      go_roundw
      case rel => exact ⟨j + 1, b / 10, c :: l, by first | rfl | go_num, by first | rfl | (refine congrArg Value.string ?_; apply ByteArray.ext; simp), by first | rfl | go_num, hlt, by omega, by rw [List.length_cons, hl], ⟨HX.out.1, HX.out.2, HB.out⟩⟩
      case measure => simp [intOf]; omega
    · obtain rfl : j = k := by omega
      have i1 : ¬ (j : Int) < (j : Int) := by omega
      have HX := show Hid (l = padL j n ∧ Below w.heap.size w wr) from hx.out.2
      clear hx
      go_wp2_with fail
      go_ret
      exact ⟨congrArg (fun z : List UInt8 => Ending.returned (Value.string ⟨z.toArray⟩)) HX.out.1, HX.out.2⟩
end Go.Proofs.YtbepjlhknmhmeaaDoor
