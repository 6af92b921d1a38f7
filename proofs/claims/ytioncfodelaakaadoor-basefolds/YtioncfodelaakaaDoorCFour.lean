/-
  The program's toFour: the signs of one to three bytes.
-/
import Derived.Test.YtioncfodelaakaaDoorCFlat
import Derived.Test.YtioncfodelaakaaDoorCSign2
import Derived.Test.YtioncfodelaakaaDoorBPlain3
import Derived.Handy
import Derived.LoopN
import Derived.Laws.BitsLemmas
namespace Go.Proofs.YtioncfodelaakaaDoor
open Go.RowKit Ch

theorem wraps_i64 (n : Int) (_h₀ : 0 ≤ n) (_h₁ : n < 2 ^ 62) : IntKind.i64.wrap n = n := by rw [IntKind.wrap_i64]; omega
theorem i64_join8 {x y : Int} (h0 : 0 ≤ x) (hx : x % 256 = 0) (h1 : x < 1000000000000) (h2 : 0 ≤ y) (h3 : y < 256) : bits .or .i64 x y = x + y :=
  bits_join .i64 62 (by decide) wraps_i64 8 x y h0 hx (by omega) h2 h3 (by omega)
theorem i64_join6 {x y : Int} (h0 : 0 ≤ x) (hx : x % 64 = 0) (h1 : x < 1000000000000) (h2 : 0 ≤ y) (h3 : y < 64) : bits .or .i64 x y = x + y :=
  bits_join .i64 62 (by decide) wraps_i64 6 x y h0 hx (by omega) h2 h3 (by omega)
theorem i64_mask6 {x : Int} (h0 : 0 ≤ x) (h1 : x < 1000000000000) : bits .and .i64 x 63 = x % 64 :=
  bits_mask .i64 62 (by decide) wraps_i64 6 (by decide) x h0 (by omega)
theorem signs64_fin : ∀ y : Fin 64, (signs64[y.val]'(by have := y.isLt; rw [signs64_size]; exact this)).toNat = signN y.val := by decide +kernel
theorem sign_cell {y : Nat} (h : y < signs64.size) : Value.int .u8 ((signs64[y]'h).toNat : Int) = .int .u8 ((UInt8.ofNat (signN y)).toNat : Int) := by
  rw [sign8_toNat]
  exact congrArg _ (congrArg _ (signs64_fin ⟨y, by rw [signs64_size] at h; exact h⟩))
def S8 (n : Nat) : UInt8 := UInt8.ofNat (signN n)
theorem four_is {u0 u1 u2 u3 v0 v1 v2 v3 : Value} (h0 : u0 = v0) (h1 : u1 = v1) (h2 : u2 = v2) (h3 : u3 = v3) : Ending.returned (.agg #[u0, u1, u2, u3]) = .returned (.agg #[v0, v1, v2, v3]) := by rw [h0, h1, h2, h3]
theorem enc_of3 {x : ByteArray} (h : x.size = 3) : encL x = [S8 (byte x 0 / 4), S8 (byte x 0 % 4 * 16 + byte x 1 / 16), S8 (byte x 1 % 16 * 4 + byte x 2 / 64), S8 (byte x 2 % 64)] := by
  have e0 := grp_0 x 0
  have e1 := grp_1 x 0
  have e2 := grp_2 x 0
  have e3 := grp_3 x 0
  simp only [Nat.mul_zero, Nat.zero_add] at e0 e1 e2 e3
  have hs : signCount 3 = 4 := rfl
  unfold encL
  rw [h, hs]
  simp only [signsL, List.range_succ, List.range_zero, List.map_cons, List.map_nil, List.nil_append, List.cons_append]
  rw [e0, e1, e2, e3]
  rfl
theorem enc_of2 {x : ByteArray} (h : x.size = 2) : encL x = [S8 (byte x 0 / 4), S8 (byte x 0 % 4 * 16 + byte x 1 / 16), S8 (byte x 1 % 16 * 4 + byte x 2 / 64), 61] := by
  have e0 := grp_0 x 0
  have e1 := grp_1 x 0
  have e2 := grp_2 x 0
  have e3 := grp_3 x 0
  simp only [Nat.mul_zero, Nat.zero_add] at e0 e1 e2 e3
  have hs : signCount 2 = 3 := rfl
  unfold encL
  rw [h, hs]
  simp only [signsL, List.range_succ, List.range_zero, List.map_cons, List.map_nil, List.nil_append, List.cons_append, e0, e1, e2]
  skip
  rfl
theorem enc_of1 {x : ByteArray} (h : x.size = 1) : encL x = [S8 (byte x 0 / 4), S8 (byte x 0 % 4 * 16 + byte x 1 / 16), 61, 61] := by
  have e0 := grp_0 x 0
  have e1 := grp_1 x 0
  have e2 := grp_2 x 0
  have e3 := grp_3 x 0
  simp only [Nat.mul_zero, Nat.zero_add] at e0 e1 e2 e3
  have hs : signCount 1 = 2 := rfl
  unfold encL
  rw [h, hs]
  simp only [signsL, List.range_succ, List.range_zero, List.map_cons, List.map_nil, List.nil_append, List.cons_append, e0, e1]
  skip
  rfl

set_option maxHeartbeats 2000000 in
set_option maxRecDepth 100000 in
theorem toFour_3 (x : ByteArray) (b0 b1 b2 : Nat) (w : World) (hx : x.size = 3) (h0 : (x[0]'(by omega)).toNat = b0) (l0 : b0 < 256) (h1 : (x[1]'(by omega)).toNat = b1) (l1 : b1 < 256) (h2 : (x[2]'(by omega)).toNat = b2) (l2 : b2 < 256) :
    Calls Tryd.prog 20 #[.string x] w fun e w' => e = .returned (.agg (Lib.byteCells (encL x)).toArray) ∧ Below w.heap.size w w' := by
  have k0 : byte x 0 = b0 := by rw [byte_eq x 0 (by omega)]; exact h0
  have k1 : byte x 1 = b1 := by rw [byte_eq x 1 (by omega)]; exact h1
  have k2 : byte x 2 = b2 := by rw [byte_eq x 2 (by omega)]; exact h2
  obtain ⟨m1, hm1⟩ : ∃ m1, m1 = b0 * 256 + b1 := ⟨_, rfl⟩
  obtain ⟨m, hm⟩ : ∃ m, m = m1 * 256 + b2 := ⟨_, rfl⟩
  have o1 : bits .or .i64 0 (b0 : Int) = (b0 : Int) := by rw [i64_join8 (by omega) (by omega) (by omega) (by omega) (by omega)]; omega
  have o2 : bits .or .i64 ((b0 : Int) * 256) (b1 : Int) = (m1 : Int) := by rw [i64_join8 (by omega) (by omega) (by omega) (by omega) (by omega)]; omega
  have o3 : bits .or .i64 ((m1 : Int) * 256) (b2 : Int) = (m : Int) := by rw [i64_join8 (by omega) (by omega) (by omega) (by omega) (by omega)]; omega
  have hmm : m < 16777216 := by omega
  have hmm1 : m1 < 65536 := by omega
  obtain ⟨g0, hg0⟩ : ∃ g0, g0 = m / 262144 % 64 := ⟨_, rfl⟩
  have a0 : bits .and .i64 ((m : Int) / 262144) 63 = (g0 : Int) := by rw [i64_mask6 (by omega) (by omega)]; omega
  have q0 : g0 < 64 := by omega
  obtain ⟨g1, hg1⟩ : ∃ g1, g1 = m / 4096 % 64 := ⟨_, rfl⟩
  have a1 : bits .and .i64 ((m : Int) / 4096) 63 = (g1 : Int) := by rw [i64_mask6 (by omega) (by omega)]; omega
  have q1 : g1 < 64 := by omega
  obtain ⟨g2, hg2⟩ : ∃ g2, g2 = m / 64 % 64 := ⟨_, rfl⟩
  have a2 : bits .and .i64 ((m : Int) / 64) 63 = (g2 : Int) := by rw [i64_mask6 (by omega) (by omega)]; omega
  have q2 : g2 < 64 := by omega
  obtain ⟨g3, hg3⟩ : ∃ g3, g3 = m / 1 % 64 := ⟨_, rfl⟩
  have a3 : bits .and .i64 (m : Int) 63 = (g3 : Int) := by rw [i64_mask6 (by omega) (by omega)]; omega
  have q3 : g3 < 64 := by omega
  have HE : Hid (encL x = [S8 g0, S8 g1, S8 g2, S8 g3]) := by
    unfold Hid
    rw [enc_of3 hx, k0, k1, k2]
    rw [show g0 = b0 / 4 by omega, show g1 = b0 % 4 * 16 + b1 / 16 by omega, show g2 = b1 % 16 * 4 + b2 / 64 by omega, show g3 = b2 % 64 by omega]
  clear hg0 hg1 hg2 hg3 hm hm1 k0 k1 k2
  go_enter Tryd.func20, Tryd.ntmps20
  go_wp2_with fail
  refine wp_loop_rounds 4 ?_
  rw [rounds_succ]
  go_wp2_with fail
  rw [rounds_succ]
  go_wp2_with fail
  rw [rounds_succ]
  go_wp2_with fail
  rw [rounds_succ]
  go_wp2_with fail
  refine wp_loop_rounds 5 ?_
  rw [rounds_succ]
  go_wp2_with fail
  rw [rounds_succ]
  go_wp2_with fail
  rw [rounds_succ]
  go_wp2_with fail
  rw [rounds_succ]
  go_wp2_with fail
  rw [rounds_succ]
  go_wp2_with fail
  go_returns
  refine ⟨?_, ((Below.refl _ w).alloc (Nat.le_refl _) _).alloc (by simp) _⟩
  rw [HE.out]
  exact four_is (sign_cell (y := g0) (by rw [signs64_size]; exact q0)) (sign_cell (y := g1) (by rw [signs64_size]; exact q1)) (sign_cell (y := g2) (by rw [signs64_size]; exact q2)) (sign_cell (y := g3) (by rw [signs64_size]; exact q3))

set_option maxHeartbeats 2000000 in
set_option maxRecDepth 100000 in
theorem toFour_2 (x : ByteArray) (b0 b1 : Nat) (w : World) (hx : x.size = 2) (h0 : (x[0]'(by omega)).toNat = b0) (l0 : b0 < 256) (h1 : (x[1]'(by omega)).toNat = b1) (l1 : b1 < 256) :
    Calls Tryd.prog 20 #[.string x] w fun e w' => e = .returned (.agg (Lib.byteCells (encL x)).toArray) ∧ Below w.heap.size w w' := by
  have k0 : byte x 0 = b0 := by rw [byte_eq x 0 (by omega)]; exact h0
  have k1 : byte x 1 = b1 := by rw [byte_eq x 1 (by omega)]; exact h1
  have k2 : byte x 2 = 0 := byte_default x 2 (by omega)
  obtain ⟨m1, hm1⟩ : ∃ m1, m1 = b0 * 256 + b1 := ⟨_, rfl⟩
  obtain ⟨m, hm⟩ : ∃ m, m = m1 * 256 := ⟨_, rfl⟩
  have o1 : bits .or .i64 0 (b0 : Int) = (b0 : Int) := by rw [i64_join8 (by omega) (by omega) (by omega) (by omega) (by omega)]; omega
  have o2 : bits .or .i64 ((b0 : Int) * 256) (b1 : Int) = (m1 : Int) := by rw [i64_join8 (by omega) (by omega) (by omega) (by omega) (by omega)]; omega
  have o3 : (m1 : Int) * 256 = (m : Int) := by omega
  have hmm : m < 16777216 := by omega
  have hmm1 : m1 < 65536 := by omega
  obtain ⟨g0, hg0⟩ : ∃ g0, g0 = m / 262144 % 64 := ⟨_, rfl⟩
  have a0 : bits .and .i64 ((m : Int) / 262144) 63 = (g0 : Int) := by rw [i64_mask6 (by omega) (by omega)]; omega
  have q0 : g0 < 64 := by omega
  obtain ⟨g1, hg1⟩ : ∃ g1, g1 = m / 4096 % 64 := ⟨_, rfl⟩
  have a1 : bits .and .i64 ((m : Int) / 4096) 63 = (g1 : Int) := by rw [i64_mask6 (by omega) (by omega)]; omega
  have q1 : g1 < 64 := by omega
  obtain ⟨g2, hg2⟩ : ∃ g2, g2 = m / 64 % 64 := ⟨_, rfl⟩
  have a2 : bits .and .i64 ((m : Int) / 64) 63 = (g2 : Int) := by rw [i64_mask6 (by omega) (by omega)]; omega
  have q2 : g2 < 64 := by omega
  have HE : Hid (encL x = [S8 g0, S8 g1, S8 g2, 61]) := by
    unfold Hid
    rw [enc_of2 hx, k0, k1, k2]
    rw [show g0 = b0 / 4 by omega, show g1 = b0 % 4 * 16 + b1 / 16 by omega, show g2 = b1 % 16 * 4 + 0 / 64 by omega]
  clear hg0 hg1 hg2 hm hm1 k0 k1 k2
  go_enter Tryd.func20, Tryd.ntmps20
  go_wp2_with fail
  refine wp_loop_rounds 4 ?_
  rw [rounds_succ]
  go_wp2_with fail
  rw [rounds_succ]
  go_wp2_with fail
  rw [rounds_succ]
  go_wp2_with fail
  rw [rounds_succ]
  go_wp2_with fail
  refine wp_loop_rounds 5 ?_
  rw [rounds_succ]
  go_wp2_with fail
  rw [rounds_succ]
  go_wp2_with fail
  rw [rounds_succ]
  go_wp2_with fail
  rw [rounds_succ]
  go_wp2_with fail
  rw [rounds_succ]
  go_wp2_with fail
  go_returns
  refine ⟨?_, ((Below.refl _ w).alloc (Nat.le_refl _) _).alloc (by simp) _⟩
  rw [HE.out]
  exact four_is (sign_cell (y := g0) (by rw [signs64_size]; exact q0)) (sign_cell (y := g1) (by rw [signs64_size]; exact q1)) (sign_cell (y := g2) (by rw [signs64_size]; exact q2)) rfl

set_option maxHeartbeats 2000000 in
set_option maxRecDepth 100000 in
theorem toFour_1 (x : ByteArray) (b0 : Nat) (w : World) (hx : x.size = 1) (h0 : (x[0]'(by omega)).toNat = b0) (l0 : b0 < 256) :
    Calls Tryd.prog 20 #[.string x] w fun e w' => e = .returned (.agg (Lib.byteCells (encL x)).toArray) ∧ Below w.heap.size w w' := by
  have k0 : byte x 0 = b0 := by rw [byte_eq x 0 (by omega)]; exact h0
  have k1 : byte x 1 = 0 := byte_default x 1 (by omega)
  have k2 : byte x 2 = 0 := byte_default x 2 (by omega)
  obtain ⟨m, hm⟩ : ∃ m, m = b0 * 65536 := ⟨_, rfl⟩
  have o1 : bits .or .i64 0 (b0 : Int) = (b0 : Int) := by rw [i64_join8 (by omega) (by omega) (by omega) (by omega) (by omega)]; omega
  have o3 : (b0 : Int) * 256 * 256 = (m : Int) := by omega
  have hmm : m < 16777216 := by omega
  obtain ⟨g0, hg0⟩ : ∃ g0, g0 = m / 262144 % 64 := ⟨_, rfl⟩
  have a0 : bits .and .i64 ((m : Int) / 262144) 63 = (g0 : Int) := by rw [i64_mask6 (by omega) (by omega)]; omega
  have q0 : g0 < 64 := by omega
  obtain ⟨g1, hg1⟩ : ∃ g1, g1 = m / 4096 % 64 := ⟨_, rfl⟩
  have a1 : bits .and .i64 ((m : Int) / 4096) 63 = (g1 : Int) := by rw [i64_mask6 (by omega) (by omega)]; omega
  have q1 : g1 < 64 := by omega
  have HE : Hid (encL x = [S8 g0, S8 g1, 61, 61]) := by
    unfold Hid
    rw [enc_of1 hx, k0, k1]
    rw [show g0 = b0 / 4 by omega, show g1 = b0 % 4 * 16 + 0 / 16 by omega]
  clear hg0 hg1 hm k0 k1 k2
  go_enter Tryd.func20, Tryd.ntmps20
  go_wp2_with fail
  refine wp_loop_rounds 4 ?_
  rw [rounds_succ]
  go_wp2_with fail
  rw [rounds_succ]
  go_wp2_with fail
  rw [rounds_succ]
  go_wp2_with fail
  rw [rounds_succ]
  go_wp2_with fail
  refine wp_loop_rounds 5 ?_
  rw [rounds_succ]
  go_wp2_with fail
  rw [rounds_succ]
  go_wp2_with fail
  rw [rounds_succ]
  go_wp2_with fail
  rw [rounds_succ]
  go_wp2_with fail
  rw [rounds_succ]
  go_wp2_with fail
  go_returns
  refine ⟨?_, ((Below.refl _ w).alloc (Nat.le_refl _) _).alloc (by simp) _⟩
  rw [HE.out]
  exact four_is (sign_cell (y := g0) (by rw [signs64_size]; exact q0)) (sign_cell (y := g1) (by rw [signs64_size]; exact q1)) rfl rfl

theorem toFour_any (x : ByteArray) (w : World) (h1 : 1 ≤ x.size) (h3 : x.size ≤ 3) :
    Calls Tryd.prog 20 #[.string x] w fun e w' => e = .returned (.agg (Lib.byteCells (encL x)).toArray) ∧ Below w.heap.size w w' := by
  have hl : ∀ (k : Nat) (h : k < x.size), (x[k]'h).toNat < 256 := fun k h => UInt8.toNat_lt _
  rcases (show x.size = 1 ∨ x.size = 2 ∨ x.size = 3 by omega) with h | h | h
  · exact toFour_1 x _ w h rfl (hl 0 (by omega))
  · exact toFour_2 x _ _ w h rfl (hl 0 (by omega)) rfl (hl 1 (by omega))
  · exact toFour_3 x _ _ _ w h rfl (hl 0 (by omega)) rfl (hl 1 (by omega)) rfl (hl 2 (by omega))
end Go.Proofs.YtioncfodelaakaaDoor
