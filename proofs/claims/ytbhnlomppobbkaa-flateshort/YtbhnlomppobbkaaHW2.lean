/-
  The program's writer of bits: numbers, codes, headers.
-/
import Derived.Test.YtbhnlomppobbkaaHW1
namespace Go.Proofs.Ytbhnlomppobbkaa
open Go.RowKit Ch
set_option maxRecDepth 100000

theorem and_one {x i : Nat} (hx : x < 1000000) : bits .and .i64 ((x : Int) / 2 ^ i) 1 = ((x.testBit i).toNat : Int) := by
  have e : (x : Int) / 2 ^ i = ((x / 2 ^ i : Nat) : Int) := by simp
  have hle : x / 2 ^ i ≤ x := Nat.div_le_self _ _
  rw [e, Nat.toNat_testBit]
  have := bits_mask .i64 62 (by decide) wraps_i64 1 (by decide) ((x / 2 ^ i : Nat) : Int) (Int.natCast_nonneg _) (by generalize x / 2 ^ i = y at *; omega)
  simpa using this
set_option maxHeartbeats 2000000 in
theorem wNumber_any (wb : Nat) (pre : List UInt8) (l : List Bool) (v : Value) (w : World) (h : Wr wb pre l v w) (x k : Nat) (hx : x < 1000000) (hk : k ≤ 20) (hl : (pre ++ pack l).length ≤ 800000) :
    Calls Try.prog 39 #[.pointer (some ⟨wb, 0, none⟩), .int .i64 (x : Int), .int .i64 (k : Int)] w fun e w' => e = .returned (.tuple #[]) ∧ ∃ v', Wr wb pre (l ++ numBits x k) v' w' ∧ Below wb w w' := by
  go_enter Try.func39, Try.ntmps39
  go_wp2_with fail
  go_loopw [8] (fun t wr => ∃ (i : Nat) (v : Value), i ≤ k ∧ t = .int .i64 (i : Int) ∧ Wr wb pre (l ++ numBits x i) v wr ∧ Below wb w wr) (fun t _ => 20 - (intOf t).toNat)
  case atStart => exact ⟨0, v, Nat.zero_le _, rfl, by simpa [numBits] using h, Below.refl _ _⟩
  case round =>
    obtain ⟨i, v, hi, rfl, hW, hb⟩ := hrel
    by_cases hlt : i < k
    · have e1 := and_one (x := x) (i := i) hx
      have hB := wBit_any wb pre (l ++ numBits x i) v wr hW (x.testBit i) (by rw [List.length_append, pack_length] at hl; rw [List.length_append, pack_length, List.length_append, numBits_length]; omega)
      rw [List.append_assoc, ← numBits_succ] at hB
      go_wp2_with (go_at_call 38; go_must (refine hB.mono ?_))
      rintro e w1 ⟨rfl, v1, hW1, hb1⟩
      go_wp2_with fail
      go_roundw
      case rel => exact ⟨i + 1, v1, by omega, by go_num, hW1, hb.trans hb1⟩
      case measure => simp [intOf]; omega
    · obtain rfl : i = k := by omega
      go_wp2
      go_end0
      exact ⟨rfl, v, hW, hb⟩
theorem codeBits_take (x k i : Nat) (h : i < k) : (codeBits x k).take (i + 1) = (codeBits x k).take i ++ [x.testBit (k - 1 - i)] := by
  rw [List.take_add_one]
  simp [codeBits, h]
set_option maxHeartbeats 2000000 in
theorem wCode_any (wb : Nat) (pre : List UInt8) (l : List Bool) (v : Value) (w : World) (h : Wr wb pre l v w) (x k : Nat) (hx : x < 1000000) (hk : k ≤ 20) (hl : (pre ++ pack l).length ≤ 800000) :
    Calls Try.prog 19 #[.pointer (some ⟨wb, 0, none⟩), .int .i64 (x : Int), .int .i64 (k : Int)] w fun e w' => e = .returned (.tuple #[]) ∧ ∃ v', Wr wb pre (l ++ codeBits x k) v' w' ∧ Below wb w w' := by
  go_enter Try.func19, Try.ntmps19
  go_wp2_with fail
  go_loopw [8] (fun t wr => ∃ (i : Nat) (v : Value), i ≤ k ∧ t = .int .i64 (i : Int) ∧ Wr wb pre (l ++ (codeBits x k).take i) v wr ∧ Below wb w wr) (fun t _ => 20 - (intOf t).toNat)
  case atStart => exact ⟨0, v, Nat.zero_le _, rfl, by simpa using h, Below.refl _ _⟩
  case round =>
    obtain ⟨i, v, hi, rfl, hW, hb⟩ := hrel
    by_cases hlt : i < k
    · have e1 := and_one (x := x) (i := k - 1 - i) hx
      have hB := wBit_any wb pre (l ++ (codeBits x k).take i) v wr hW (x.testBit (k - 1 - i)) (by rw [List.length_append, pack_length] at hl; rw [List.length_append, pack_length, List.length_append, List.length_take, codeBits_length]; omega)
      rw [List.append_assoc, ← codeBits_take _ _ _ hlt] at hB
      go_wp2_with (go_at_call 38; go_must (refine hB.mono ?_))
      rintro e w1 ⟨rfl, v1, hW1, hb1⟩
      go_wp2_with fail
      go_roundw
      case rel => exact ⟨i + 1, v1, by omega, by go_num, hW1, hb.trans hb1⟩
      case measure => simp [intOf]; omega
    · obtain rfl : i = k := by omega
      rw [List.take_of_length_le (by rw [codeBits_length]; omega)] at hW
      go_wp2
      go_end0
      exact ⟨rfl, v, hW, hb⟩
set_option maxHeartbeats 2000000 in
theorem wHeader_any (wb : Nat) (pre : List UInt8) (l : List Bool) (v : Value) (w : World) (h : Wr wb pre l v w) (last : Bool) (k : Nat) (hk : k < 4) (hl : (pre ++ pack l).length ≤ 700000) :
    Calls Try.prog 17 #[.pointer (some ⟨wb, 0, none⟩), .bool last, .int .i64 (k : Int)] w fun e w' => e = .returned (.tuple #[]) ∧ ∃ v', Wr wb pre (l ++ last :: numBits k 2) v' w' ∧ Below wb w w' := by
  have hB := wBit_any wb pre l v w h last (by omega)
  have hl2 : (pre ++ pack (l ++ [last])).length ≤ 800000 := by
    rw [List.length_append, pack_length] at hl
    rw [List.length_append, pack_length, List.length_append, List.length_singleton]
    omega
  cases last with
  | true =>
    go_enter Try.func17, Try.ntmps17
    go_wp2_with (go_at_call 38; go_must (refine hB.mono ?_))
    rintro e w1 ⟨rfl, v1, hW1, hb1⟩
    have hN := wNumber_any wb pre _ v1 w1 hW1 k 2 (by omega) (by omega) hl2
    go_wp2_with (go_at_call 39; go_must (refine hN.mono ?_))
    rintro e w2 ⟨rfl, v2, hW2, hb2⟩
    go_wp2
    go_end0
    exact ⟨rfl, v2, by simpa using hW2, hb1.trans hb2⟩
  | false =>
    go_enter Try.func17, Try.ntmps17
    go_wp2_with (go_at_call 38; go_must (refine hB.mono ?_))
    rintro e w1 ⟨rfl, v1, hW1, hb1⟩
    have hN := wNumber_any wb pre _ v1 w1 hW1 k 2 (by omega) (by omega) hl2
    go_wp2_with (go_at_call 39; go_must (refine hN.mono ?_))
    rintro e w2 ⟨rfl, v2, hW2, hb2⟩
    go_wp2
    go_end0
    exact ⟨rfl, v2, by simpa using hW2, hb1.trans hb2⟩
end Go.Proofs.Ytbhnlomppobbkaa
