/-
  The document's Less: two to a power, less a number.
  The document's Primes.
-/
import Derived.Test.YtpcmpeeflnlkpaaDoorQRSizeEtc
import Derived.Test.YtpcmpeeflnlkpaaDoorNRSub
namespace Go.Proofs.YtpcmpeeflnlkpaaDoor
open Go.RowKit Ch
set_option maxRecDepth 100000

theorem numD_zeros : ∀ (k : Nat) (L : List Nat), numD (List.replicate k 0 ++ L) = 256 ^ k * numD L
  | 0, L => by simp
  | k + 1, L => by
    rw [List.replicate_succ, List.cons_append]
    show 0 + 256 * numD (List.replicate k 0 ++ L) = _
    rw [numD_zeros k L, Nat.pow_succ, Nat.zero_add, ← Nat.mul_assoc, Nat.mul_comm 256]
theorem own_shapeN {w : World} {base : Nat} {v : Value} {L : List Nat} {m : Nat} (h : w.ownsRow base 3 1 v L.length (kc .i64 L)) (hm : L.length = m) : ∃ y c, v = .slice y m c := by
  subst hm
  obtain ⟨a, c, h1, _⟩ := own_n h
  exact ⟨a, c, h1⟩
theorem own_twoI (w : World) (a b : Nat) : (w.alloc (.cells #[.int .i64 (a : Int), .int .i64 (b : Int)] 3)).ownsRow w.heap.size 3 1 (.slice (some ⟨w.heap.size, 0, none⟩) 2 2) ([a, b] : List Nat).length (kc .i64 [a, b]) :=
  ⟨rfl, .inr ⟨w.heap.size, 2, #[.int .i64 (a : Int), .int .i64 (b : Int)], rfl, Nat.le_refl _, heap_push_at w _, Nat.le_refl _, by unfold maxLen; omega, rfl, rfl⟩⟩
theorem pow_le7 {j : Nat} (h : j < 8) : 2 ^ j ≤ 128 := (show (2 : Nat) ^ j ≤ 2 ^ 7 from Nat.pow_le_pow_right (by decide) (by omega))
set_option maxHeartbeats 8000000 in
theorem qrLess_any (n r k : Nat) (w : World) (hn : n ≤ 64) (hr : r < 8) (hk : k < 65536) (h1 : 2 ≤ n) (hk2 : k ≤ 256 ^ n) :
    Calls Tryd.prog 55 #[.int .i64 ((8 * n + r : Nat) : Int), .int .i64 (k : Int)] w fun e w' => (∃ x R, e = .returned x ∧ IsBytes w' x ⟨R.toArray⟩ ∧ bareL R = R ∧ numB R = 2 ^ (8 * n + r) - k) ∧ Below w.heap.size w w' := by
  obtain ⟨bt, hbt⟩ : ∃ b, 8 * n + r = b := ⟨_, rfl⟩
  rw [hbt]
  have e1 : (bt : Int).tdiv 8 = (n : Int) := by rw [Int.tdiv_eq_ediv_of_nonneg (by omega)]; omega
  have e2 : (bt : Int).tmod 8 = (r : Int) := by rw [Int.tmod_eq_emod_of_nonneg (by omega)]; omega
  obtain ⟨k0, hk0⟩ : ∃ x, k % 256 = x := ⟨_, rfl⟩
  obtain ⟨k1, hk1⟩ : ∃ x, k / 256 = x := ⟨_, rfl⟩
  have e3 : (k : Int).tmod 256 = (k0 : Int) := by rw [Int.tmod_eq_emod_of_nonneg (by omega)]; omega
  have e4 : (k : Int).tdiv 256 = (k1 : Int) := by rw [Int.tdiv_eq_ediv_of_nonneg (by omega)]; omega
  have HK := show Hid (k0 + 256 * k1 = k ∧ k0 < 256 ∧ k1 < 256 ∧ n ≤ 64 ∧ r < 8 ∧ 2 ≤ n ∧ k ≤ 256 ^ n) from ⟨by omega, by omega, by omega, hn, hr, h1, hk2⟩
  have HBT := show Hid (8 * n + r = bt) from hbt
  have wk1 : wrap64 (k1 : Int) = (k1 : Int) := by unfold wrap64; omega
  clear hk0 hk1 hk2 hk hbt
  go_enter Tryd.func55, Tryd.ntmps55
  go_wp2_with fail
  go_loopw [5, 6] (fun v p wr => ∃ (i : Nat) (c : Nat) (y : Option Addr), v = .slice y i c ∧ p = .int .i64 (i : Int) ∧ i ≤ n ∧ Hid (wr.ownsRow w.heap.size 3 1 (.slice y i c) (List.replicate i 0).length (kc .i64 (List.replicate i 0))) ∧ Hid (Below w.heap.size w wr)) (fun _ p _ => n - (intOf p).toNat)
  case atStart => exact ⟨0, 0, _, rfl, rfl, by omega, own_emptyN w _ _ (Nat.le_refl _), alB _ _⟩
  case round =>
    obtain ⟨i, c, y, rfl, rfl, hi, ho, hb⟩ := hrel
    have hown := ho.out
    have hbb := hb.out
    have hp5 : IntKind.i64.wrap ((i : Int) + 1) = (i : Int) + 1 := by rw [IntKind.wrap_i64]; omega
    by_cases hlt : i < n
    · have hin : (i : Int) < (n : Int) := by omega
      have HOL := show Hid (List.replicate i 0 ++ [0] = List.replicate (i + 1) 0) from by unfold Hid; rw [List.replicate_succ']
      go_wp2_with (at_builtin; go_must (refine wpList_append_n RI rfl _ _ rfl w.heap.size _ _ rfl hown _ rfl 0 rfl _ HOL (by rw [List.length_replicate]; omega) hbb.size hbb ?_; intro v2 w2 ho2 hb2; obtain ⟨y2, c2, rfl⟩ := own_shapeN (m := i + 1) ho2 List.length_replicate))
      go_roundw
      case rel => exact ⟨i + 1, c2, y2, rfl, by go_num, by omega, ho2, hb2⟩
      case measure => simp [intOf]; omega
    · obtain rfl : i = n := by omega
      have hin : ¬ (i : Int) < (i : Int) := by omega
      clear hown hbb hp5
      obtain ⟨wA, hwA⟩ : ∃ a, wr = a := ⟨_, rfl⟩
      rw [hwA] at ho hb ⊢
      clear hwA
      go_wp2_with fail
      go_loopw [7, 8] (fun a b wr => ∃ j pj : Nat, a = .int .i64 (pj : Int) ∧ b = .int .i64 (j : Int) ∧ j ≤ r ∧ Hid (pj = 2 ^ j) ∧ pj ≤ 128 ∧ Hid (wr = wA)) (fun _ b _ => r - (intOf b).toNat)
      case atStart => exact ⟨0, 1, rfl, rfl, by omega, rfl, by omega, rfl⟩
      case round =>
        obtain ⟨j, pj, rfl, rfl, hj, hpj, hpl, hwr⟩ := hrel
        have hw9 := hwr.out
        subst hw9
        have hp5 : IntKind.i64.wrap ((j : Int) + 1) = (j : Int) + 1 := by rw [IntKind.wrap_i64]; omega
        by_cases hlt2 : j < r
        · have hjr : (j : Int) < (r : Int) := by omega
          obtain ⟨p2, hp2⟩ : ∃ x, pj * 2 = x := ⟨_, rfl⟩
          have hp6 : IntKind.i64.wrap ((pj : Int) * 2) = (p2 : Int) := by rw [IntKind.wrap_i64]; omega
          have hp7 : p2 = 2 ^ (j + 1) := by rw [Nat.pow_succ, ← hpj.out]; exact hp2.symm
          have hp8 : p2 ≤ 128 := by rw [hp7]; exact pow_le7 (by omega)
          have HP7 := show Hid (p2 = 2 ^ (j + 1)) from hp7
          clear hp7 hp2
          go_wp2_with fail
          go_roundw
          case rel => exact ⟨j + 1, p2, rfl, by go_num, by omega, HP7.out, hp8, by unfold Hid; trivial⟩
          case measure => simp [intOf]; omega
        · obtain rfl : j = r := by omega
          have hjr : ¬ (j : Int) < (j : Int) := by omega
          have hown := ho.out
          have hbb := hb.out
          have HOL := show Hid (List.replicate i 0 ++ [pj] = List.replicate i 0 ++ [pj]) from rfl
          go_wp2_with (at_builtin; go_must (refine wpList_append_n RI rfl _ _ rfl w.heap.size _ _ rfl hown _ rfl pj rfl _ HOL (by rw [List.length_replicate]; omega) hbb.size hbb ?_; intro v2 w2 ho2 hb2; obtain ⟨y2, c2, rfl⟩ := own_shapeN (m := i + 1) ho2 (by simp)))
          have hLl : (List.replicate i 0 ++ [pj]).length = i + 1 := by simp
          have hLD : AllD (List.replicate i 0 ++ [pj]) := fun x hx => by
            rcases List.mem_append.1 hx with h | h
            · rw [List.eq_of_mem_replicate h]; decide
            · rw [List.mem_singleton.1 h]; omega
          have hND : numD (List.replicate i 0 ++ [pj]) = 2 ^ bt := by
            rw [numD_zeros, ← HBT.out, Nat.pow_add, Nat.pow_mul, hpj.out]
            simp [numD]
          have hMD : AllD [k0, k1] := fun x hx => by
            simp only [List.mem_cons, List.not_mem_nil, or_false] at hx
            rcases hx with rfl | rfl
            · exact HK.out.2.1
            · exact HK.out.2.2.1
          have hNM : numD [k0, k1] = k := by have h9 := HK.out.1; simp only [numD]; omega
          have hle : k ≤ 2 ^ bt := by
            refine Nat.le_trans HK.out.2.2.2.2.2.2 ?_
            rw [← HBT.out, Nat.pow_add, Nat.pow_mul]
            exact Nat.le_mul_of_pos_right _ (Nat.pow_pos (by decide))
          have i2 := own_n ho2
          rw [hLl] at ho2
          have hSb := digSubU (List.replicate i 0 ++ [pj]) [k0, k1] y2 (some ⟨w2.heap.size, 0, none⟩) c2 2 (w2.alloc (.cells #[.int .i64 (k0 : Int), .int .i64 (k1 : Int)] 3)) (by rw [hLl]; exact i2.alloc _) hLD (own_n (own_twoI w2 k0 k1)) hMD (by rw [hLl]; have h9 := HK.out.2.2.2.2.2.1; show 2 ≤ i + 1; omega) (by rw [hLl]; omega) (by rw [hND, hNM]; exact hle)
          rw [hLl, hND, hNM, show ([k0, k1] : List Nat).length = 2 from rfl] at hSb
          have b3 := alB w2 (.cells #[.int .i64 (k0 : Int), .int .i64 (k1 : Int)] 3)
          have H3 := show Hid (Below w.heap.size w (w2.alloc (.cells #[.int .i64 (k0 : Int), .int .i64 (k1 : Int)] 3))) from bl2 hb2 b3
          clear hLl hLD hND hMD hNM hle i2 ho2 hb2 b3
          refine hSb.mono ?_
          rintro e w4 ⟨⟨x4, rfl, d4, _⟩, b4⟩
          have hBy := dBytes_any (i + 1) x4 (2 ^ bt - k) w4 d4 (by omega)
          obtain ⟨y4, c4, L4, rfl, _⟩ := id d4
          have H4 := show Hid (Below w.heap.size w w4) from bl2 H3.out b4
          clear hSb d4 b4 H3
          go_wp2_with fail
          refine hBy.mono ?_
          rintro e w5 ⟨⟨x5, rfl, R, y5, c5, rfl, i5, hR, hN⟩, b5⟩
          have HF := show Hid (IsBytes w5 (.slice y5 R.length c5) ⟨R.toArray⟩ ∧ bareL R = R ∧ numB R = 2 ^ bt - k ∧ Below w.heap.size w w5) from ⟨i5, hR, hN, bl2 H4.out b5⟩
          clear hBy i5 hR hN b5
          go_wp2_with fail
          go_ret
          exact ⟨⟨_, R, rfl, HF.out.1, HF.out.2.1, HF.out.2.2.1⟩, HF.out.2.2.2⟩
end Go.Proofs.YtpcmpeeflnlkpaaDoor

namespace Go.Proofs.YtpcmpeeflnlkpaaDoor
open Go.RowKit Ch
set_option maxRecDepth 100000

/-- Bytes of this number, without leading noughts. -/
def IsP (w : World) (v : Value) (N : Nat) : Prop := ∃ R : List UInt8, IsBytes w v ⟨R.toArray⟩ ∧ bareL R = R ∧ numB R = N
theorem IsP.later {w w' : World} {v : Value} {N : Nat} (h : IsP w v N) (hb : Below w.heap.size w w') : IsP w' v N := by
  obtain ⟨R, h1, h2⟩ := h
  exact ⟨R, h1.later hb, h2⟩
def c_256_357 : Nat := 2 ^ 256 - 357
theorem c_256_357_eq : c_256_357 = 2 ^ 256 - 357 := by rw [c_256_357]
theorem qrLess_256_357 (w : World) : Calls Tryd.prog 55 #[.int .i64 256, .int .i64 357] w fun e w' => (∃ x, e = .returned x ∧ IsP w' x c_256_357) ∧ Below w.heap.size w w' := by
  have h := qrLess_any 32 0 357 w (by decide) (by decide) (by decide) (by decide) (Nat.le_trans (show 357 ≤ 256 ^ 2 by decide) (Nat.pow_le_pow_right (by decide) (by decide)))
  rw [show 8 * 32 + 0 = 256 from rfl] at h
  refine Calls.mono (show Calls Tryd.prog 55 #[.int .i64 256, .int .i64 357] w _ from h) ?_
  rintro e w' ⟨⟨x, R, rfl, h1, h2, h3⟩, hb⟩
  exact ⟨⟨x, rfl, R, h1, h2, h3.trans c_256_357_eq.symm⟩, hb⟩
def c_255_31 : Nat := 2 ^ 255 - 31
theorem c_255_31_eq : c_255_31 = 2 ^ 255 - 31 := by rw [c_255_31]
theorem qrLess_255_31 (w : World) : Calls Tryd.prog 55 #[.int .i64 255, .int .i64 31] w fun e w' => (∃ x, e = .returned x ∧ IsP w' x c_255_31) ∧ Below w.heap.size w w' := by
  have h := qrLess_any 31 7 31 w (by decide) (by decide) (by decide) (by decide) (Nat.le_trans (show 31 ≤ 256 ^ 2 by decide) (Nat.pow_le_pow_right (by decide) (by decide)))
  rw [show 8 * 31 + 7 = 255 from rfl] at h
  refine Calls.mono (show Calls Tryd.prog 55 #[.int .i64 255, .int .i64 31] w _ from h) ?_
  rintro e w' ⟨⟨x, R, rfl, h1, h2, h3⟩, hb⟩
  exact ⟨⟨x, rfl, R, h1, h2, h3.trans c_255_31_eq.symm⟩, hb⟩
def c_256_435 : Nat := 2 ^ 256 - 435
theorem c_256_435_eq : c_256_435 = 2 ^ 256 - 435 := by rw [c_256_435]
theorem qrLess_256_435 (w : World) : Calls Tryd.prog 55 #[.int .i64 256, .int .i64 435] w fun e w' => (∃ x, e = .returned x ∧ IsP w' x c_256_435) ∧ Below w.heap.size w w' := by
  have h := qrLess_any 32 0 435 w (by decide) (by decide) (by decide) (by decide) (Nat.le_trans (show 435 ≤ 256 ^ 2 by decide) (Nat.pow_le_pow_right (by decide) (by decide)))
  rw [show 8 * 32 + 0 = 256 from rfl] at h
  refine Calls.mono (show Calls Tryd.prog 55 #[.int .i64 256, .int .i64 435] w _ from h) ?_
  rintro e w' ⟨⟨x, R, rfl, h1, h2, h3⟩, hb⟩
  exact ⟨⟨x, rfl, R, h1, h2, h3.trans c_256_435_eq.symm⟩, hb⟩
def c_255_19 : Nat := 2 ^ 255 - 19
theorem c_255_19_eq : c_255_19 = 2 ^ 255 - 19 := by rw [c_255_19]
theorem qrLess_255_19 (w : World) : Calls Tryd.prog 55 #[.int .i64 255, .int .i64 19] w fun e w' => (∃ x, e = .returned x ∧ IsP w' x c_255_19) ∧ Below w.heap.size w w' := by
  have h := qrLess_any 31 7 19 w (by decide) (by decide) (by decide) (by decide) (Nat.le_trans (show 19 ≤ 256 ^ 2 by decide) (Nat.pow_le_pow_right (by decide) (by decide)))
  rw [show 8 * 31 + 7 = 255 from rfl] at h
  refine Calls.mono (show Calls Tryd.prog 55 #[.int .i64 255, .int .i64 19] w _ from h) ?_
  rintro e w' ⟨⟨x, R, rfl, h1, h2, h3⟩, hb⟩
  exact ⟨⟨x, rfl, R, h1, h2, h3.trans c_255_19_eq.symm⟩, hb⟩
def c_512_569 : Nat := 2 ^ 512 - 569
theorem c_512_569_eq : c_512_569 = 2 ^ 512 - 569 := by rw [c_512_569]
theorem qrLess_512_569 (w : World) : Calls Tryd.prog 55 #[.int .i64 512, .int .i64 569] w fun e w' => (∃ x, e = .returned x ∧ IsP w' x c_512_569) ∧ Below w.heap.size w w' := by
  have h := qrLess_any 64 0 569 w (by decide) (by decide) (by decide) (by decide) (Nat.le_trans (show 569 ≤ 256 ^ 2 by decide) (Nat.pow_le_pow_right (by decide) (by decide)))
  rw [show 8 * 64 + 0 = 512 from rfl] at h
  refine Calls.mono (show Calls Tryd.prog 55 #[.int .i64 512, .int .i64 569] w _ from h) ?_
  rintro e w' ⟨⟨x, R, rfl, h1, h2, h3⟩, hb⟩
  exact ⟨⟨x, rfl, R, h1, h2, h3.trans c_512_569_eq.symm⟩, hb⟩
def c_511_187 : Nat := 2 ^ 511 - 187
theorem c_511_187_eq : c_511_187 = 2 ^ 511 - 187 := by rw [c_511_187]
theorem qrLess_511_187 (w : World) : Calls Tryd.prog 55 #[.int .i64 511, .int .i64 187] w fun e w' => (∃ x, e = .returned x ∧ IsP w' x c_511_187) ∧ Below w.heap.size w w' := by
  have h := qrLess_any 63 7 187 w (by decide) (by decide) (by decide) (by decide) (Nat.le_trans (show 187 ≤ 256 ^ 2 by decide) (Nat.pow_le_pow_right (by decide) (by decide)))
  rw [show 8 * 63 + 7 = 511 from rfl] at h
  refine Calls.mono (show Calls Tryd.prog 55 #[.int .i64 511, .int .i64 187] w _ from h) ?_
  rintro e w' ⟨⟨x, R, rfl, h1, h2, h3⟩, hb⟩
  exact ⟨⟨x, rfl, R, h1, h2, h3.trans c_511_187_eq.symm⟩, hb⟩
def c_256_189 : Nat := 2 ^ 256 - 189
theorem c_256_189_eq : c_256_189 = 2 ^ 256 - 189 := by rw [c_256_189]
theorem qrLess_256_189 (w : World) : Calls Tryd.prog 55 #[.int .i64 256, .int .i64 189] w fun e w' => (∃ x, e = .returned x ∧ IsP w' x c_256_189) ∧ Below w.heap.size w w' := by
  have h := qrLess_any 32 0 189 w (by decide) (by decide) (by decide) (by decide) (Nat.le_trans (show 189 ≤ 256 ^ 2 by decide) (Nat.pow_le_pow_right (by decide) (by decide)))
  rw [show 8 * 32 + 0 = 256 from rfl] at h
  refine Calls.mono (show Calls Tryd.prog 55 #[.int .i64 256, .int .i64 189] w _ from h) ?_
  rintro e w' ⟨⟨x, R, rfl, h1, h2, h3⟩, hb⟩
  exact ⟨⟨x, rfl, R, h1, h2, h3.trans c_256_189_eq.symm⟩, hb⟩
theorem qrPrimes_1 (w : World) : Calls Tryd.prog 33 #[.int .i64 1] w fun e w' => (∃ x y, e = .returned (.tuple #[x, y]) ∧ IsP w' x c_256_357 ∧ IsP w' y c_255_31) ∧ Below w.heap.size w w' := by
  have h1 := qrLess_256_357 w
  generalize c_256_357 = P at *
  generalize hQ : c_255_31 = Q
  go_enter Tryd.func33, Tryd.ntmps33
  go_wp2_with fail
  refine h1.mono ?_
  rintro e w1 ⟨⟨x, rfl, p1⟩, b1⟩
  have h2 := qrLess_255_31 w1
  rw [hQ] at h2
  clear h1
  go_wp2_with fail
  refine h2.mono ?_
  rintro e w2 ⟨⟨y, rfl, p2⟩, b2⟩
  have HF := show Hid (IsP w2 x P ∧ IsP w2 y Q ∧ Below w.heap.size w w2) from ⟨p1.later b2, p2, bl2 b1 b2⟩
  clear h2 p1 p2 b1 b2
  go_wp2_with fail
  go_ret2
  exact ⟨⟨_, _, rfl, HF.out.1, HF.out.2.1⟩, HF.out.2.2⟩
theorem qrPrimes_2 (w : World) : Calls Tryd.prog 33 #[.int .i64 2] w fun e w' => (∃ x y, e = .returned (.tuple #[x, y]) ∧ IsP w' x c_256_435 ∧ IsP w' y c_255_19) ∧ Below w.heap.size w w' := by
  have h1 := qrLess_256_435 w
  generalize c_256_435 = P at *
  generalize hQ : c_255_19 = Q
  go_enter Tryd.func33, Tryd.ntmps33
  go_wp2_with fail
  refine h1.mono ?_
  rintro e w1 ⟨⟨x, rfl, p1⟩, b1⟩
  have h2 := qrLess_255_19 w1
  rw [hQ] at h2
  clear h1
  go_wp2_with fail
  refine h2.mono ?_
  rintro e w2 ⟨⟨y, rfl, p2⟩, b2⟩
  have HF := show Hid (IsP w2 x P ∧ IsP w2 y Q ∧ Below w.heap.size w w2) from ⟨p1.later b2, p2, bl2 b1 b2⟩
  clear h2 p1 p2 b1 b2
  go_wp2_with fail
  go_ret2
  exact ⟨⟨_, _, rfl, HF.out.1, HF.out.2.1⟩, HF.out.2.2⟩
theorem qrPrimes_3 (w : World) : Calls Tryd.prog 33 #[.int .i64 3] w fun e w' => (∃ x y, e = .returned (.tuple #[x, y]) ∧ IsP w' x c_512_569 ∧ IsP w' y c_511_187) ∧ Below w.heap.size w w' := by
  have h1 := qrLess_512_569 w
  generalize c_512_569 = P at *
  generalize hQ : c_511_187 = Q
  go_enter Tryd.func33, Tryd.ntmps33
  go_wp2_with fail
  refine h1.mono ?_
  rintro e w1 ⟨⟨x, rfl, p1⟩, b1⟩
  have h2 := qrLess_511_187 w1
  rw [hQ] at h2
  clear h1
  go_wp2_with fail
  refine h2.mono ?_
  rintro e w2 ⟨⟨y, rfl, p2⟩, b2⟩
  have HF := show Hid (IsP w2 x P ∧ IsP w2 y Q ∧ Below w.heap.size w w2) from ⟨p1.later b2, p2, bl2 b1 b2⟩
  clear h2 p1 p2 b1 b2
  go_wp2_with fail
  go_ret2
  exact ⟨⟨_, _, rfl, HF.out.1, HF.out.2.1⟩, HF.out.2.2⟩
theorem qrPrimes_0 (w : World) : Calls Tryd.prog 33 #[.int .i64 0] w fun e w' => (∃ x y, e = .returned (.tuple #[x, y]) ∧ IsP w' x c_256_189 ∧ IsP w' y c_255_19) ∧ Below w.heap.size w w' := by
  have h1 := qrLess_256_189 w
  generalize c_256_189 = P at *
  generalize hQ : c_255_19 = Q
  go_enter Tryd.func33, Tryd.ntmps33
  go_wp2_with fail
  refine h1.mono ?_
  rintro e w1 ⟨⟨x, rfl, p1⟩, b1⟩
  have h2 := qrLess_255_19 w1
  rw [hQ] at h2
  clear h1
  go_wp2_with fail
  refine h2.mono ?_
  rintro e w2 ⟨⟨y, rfl, p2⟩, b2⟩
  have HF := show Hid (IsP w2 x P ∧ IsP w2 y Q ∧ Below w.heap.size w w2) from ⟨p1.later b2, p2, bl2 b1 b2⟩
  clear h2 p1 p2 b1 b2
  go_wp2_with fail
  go_ret2
  exact ⟨⟨_, _, rfl, HF.out.1, HF.out.2.1⟩, HF.out.2.2⟩
end Go.Proofs.YtpcmpeeflnlkpaaDoor
