/-
  The reference of layer 10: Date.
-/
import Derived.Test.YtbepjlhknmhmeaaDoorMRefD
import Derived.Test.YtbepjlhknmhmeaaDoorMAdd
namespace Go.Proofs.YtbepjlhknmhmeaaDoor
open Go.RowKit Ch
set_option maxRecDepth 100000

theorem wrap_mid {x : Int} (h : -1000000000000000 ≤ x ∧ x ≤ 1000000000000000) : IntKind.i64.wrap x = x := by
  rw [IntKind.wrap_i64]
  omega
set_option maxHeartbeats 16000000 in
theorem rmDate_any (ms : Int) (y m d t : Nat) (w : World) (h : MomOf ms y m d t) : Calls Tryd.prog 12 #[.int .i64 ms] w fun e w' => e = .returned (.tuple #[.int .i64 (y : Int), .int .i64 (m : Int), .int .i64 (d : Int)]) ∧ Below w.heap.size w w' := by
  have hF := rmFirst_any w
  have hs := dayN_small h.day
  have ht := h.time
  have hm := h.is
  have hyr := day_year h.day
  obtain ⟨⟨h1, h2⟩, ⟨h3, h4⟩, h5, h6⟩ := h.day
  have hlb := lenM_bounds y m
  obtain ⟨T, hTT⟩ : ∃ T : Nat, dayN y m d * 86400000 + t = T := ⟨_, rfl⟩
  have w1 : IntKind.i64.wrap (ms - -62135596800000) = (T : Int) := by rw [IntKind.wrap_i64]; omega
  have w1' : IntKind.i64.wrap (ms + 62135596800000) = (T : Int) := by rw [IntKind.wrap_i64]; omega
  obtain ⟨n, hn⟩ : ∃ n, dayN y m d = n := ⟨_, rfl⟩
  obtain ⟨N, hN⟩ : ∃ N : Int, (n : Int) - 719162 = N := ⟨_, rfl⟩
  have w2 : (T : Int) / 86400000 = (n : Int) := by omega
  have w3 : wrap64 (n : Int) = (n : Int) := by unfold wrap64; omega
  have hn9 : n ≤ 4000000 := by rw [← hn]; exact Nat.le_trans (Nat.le_of_lt hs) (by decide)
  have w4 : IntKind.i64.wrap ((n : Int) - 719162) = N := (wrap_mid (by clear w1 w1' w2 w3 hTT hm hs ht hyr hN hlb h1 h2 h3 h4 h5 h6; omega)).trans hN
  have hRD := fun (u : World) (a b : Nat) (x1 : 1 ≤ a) (x2 : a ≤ 10000) (x3 : 1 ≤ b) (x4 : b ≤ 12) => rmDays_any a b 1 u x1 x2 x3 x4 (by decide) (by decide)
  have HRD := show Hid (∀ (u : World) (a b : Nat), 1 ≤ a → a ≤ 10000 → 1 ≤ b → b ≤ 12 → Calls Tryd.prog 17 #[.int .i64 (a : Int), .int .i64 (b : Int), .int .i64 1] u fun e w' => e = .returned (.int .i64 ((dayN a b 1 : Int) - 719162)) ∧ Below u.heap.size u w') from hRD
  have HN := show Hid ((n : Int) - 719162 = N ∧ dayN y m d = n ∧ n < 3652059) from ⟨hN, hn, by rw [← hn]; exact hs⟩
  have HY := show Hid (aheadY y ≤ n ∧ n < aheadY (y + 1)) from by rw [← hn]; exact hyr
  have HM := show Hid (n = aheadY y + (aheadM y (m - 1) + (d - 1)) ∧ d ≤ lenM y m ∧ 1 ≤ d) from ⟨by rw [← hn]; unfold dayN; omega, h6, h5⟩
  have hdd : d ≤ 31 := by omega
  clear hs ht hm hyr h6 hlb hTT hn hN hRD h
  go_enter Tryd.func12, Tryd.ntmps12
  go_wp2_with fail
  refine hF.mono ?_
  rintro e w0 ⟨rfl, rfl⟩
  clear hF
  go_wp2_with fail
  clear w1 w1' w2 w3 w4
  go_loopw [6, 7] (fun a b wr => ∃ lo hi : Nat, a = .int .i64 (lo : Int) ∧ b = .int .i64 (hi : Int) ∧ 1 ≤ lo ∧ lo ≤ y ∧ y ≤ hi ∧ hi ≤ 9999 ∧ Hid (Below w0.heap.size w0 wr)) (fun a b _ => (intOf b).toNat - (intOf a).toNat)
  case atStart => exact ⟨1, 9999, rfl, rfl, Nat.le_refl _, h1, h2, Nat.le_refl _, Below.refl _ _⟩
  case round =>
    obtain ⟨lo, hi, rfl, rfl, g1, g2, g3, g4, hb⟩ := hrel
    by_cases hlt : lo < hi
    · have i1 : (lo : Int) < (hi : Int) := by omega
      obtain ⟨k, hk⟩ : ∃ k, (lo + hi + 1) / 2 = k := ⟨_, rfl⟩
      have v1 : ((lo : Int) + (hi : Int) + 1) / 2 = (k : Int) := by omega
      have hC := HRD.out wr k 1 (by omega) (by omega) (by decide) (by decide)
      have hk1 : lo < k := by omega
      have hk2 : k ≤ hi := by omega
      obtain ⟨x, hx⟩ : ∃ x : Int, (dayN k 1 1 : Int) - 719162 = x := ⟨_, rfl⟩
      have hx2 : (dayN k 1 1 : Int) = (aheadY k : Int) := rfl
      rw [hx] at hC
      by_cases hp : k ≤ y
      · have i2 : x ≤ N := by
          have := aheadY_le (by omega : 1 ≤ k) hp
          have := HY.out.1
          have := HN.out.1
          omega
        clear hx hx2 hk
        go_wp2_with fail
        refine hC.mono ?_
        rintro e w5 ⟨rfl, b5⟩
        have HB := show Hid (Below w0.heap.size w0 w5) from bl2 hb.out b5
        clear hC b5 hb
        go_wp2_with fail
        go_roundw
        case rel => exact ⟨k, hi, rfl, rfl, by omega, hp, g3, g4, HB.out⟩
        case measure => simp [intOf]; omega
      · have i2 : ¬ x ≤ N := by
          have := aheadY_le (by omega : 1 ≤ y + 1) (by omega : y + 1 ≤ k)
          have := HY.out.2
          have := HN.out.1
          omega
        have wk : IntKind.i64.wrap ((k : Int) - 1) = ((k - 1 : Nat) : Int) := by rw [IntKind.wrap_i64]; omega
        clear hx hx2 hk
        go_wp2_with fail
        refine hC.mono ?_
        rintro e w5 ⟨rfl, b5⟩
        have HB := show Hid (Below w0.heap.size w0 w5) from bl2 hb.out b5
        clear hC b5 hb
        go_wp2_with fail
        go_roundw
        case rel => exact ⟨lo, k - 1, rfl, by first | rfl | go_num, g1, g2, by omega, by omega, HB.out⟩
        case measure => simp [intOf]; omega
    · obtain rfl : lo = y := by omega
      have i1 : ¬ (lo : Int) < (hi : Int) := by omega
      go_wp2_with fail
      go_loopw [9] (fun a u => ∃ j : Nat, a = .int .i64 (j : Int) ∧ 1 ≤ j ∧ j ≤ m ∧ Hid (Below w0.heap.size w0 u)) (fun a _ => m - (intOf a).toNat)
      case atStart => exact ⟨1, rfl, Nat.le_refl _, h3, hb.out⟩
      case round =>
        obtain ⟨j, rfl, f1, f2, hbu⟩ := hrel
        by_cases h12 : j < 12
        · have i2 : decide ((j : Int) < 12) = true := decide_eq_true (by omega)
          have i2' : (j : Int) < 12 := by omega
          have wj : IntKind.i64.wrap ((j : Int) + 1) = ((j + 1 : Nat) : Int) := by rw [IntKind.wrap_i64]; omega
          have hC := HRD.out wr lo (j + 1) h1 (by omega) (by omega) (by omega)
          obtain ⟨x, hx⟩ : ∃ x : Int, (dayN lo (j + 1) 1 : Int) - 719162 = x := ⟨_, rfl⟩
          have hx2 : dayN lo (j + 1) 1 = aheadY lo + aheadM lo j := rfl
          rw [hx] at hC
          by_cases hjm : j < m
          · have i3 : decide (x ≤ N) = true := decide_eq_true (by
              have := aheadM_mono lo (show j ≤ m - 1 by omega)
              have := HM.out.1
              have := HN.out.1
              omega)
            clear hx hx2
            go_wp2_with fail
            refine hC.mono ?_
            rintro e w5 ⟨rfl, b5⟩
            have HB := show Hid (Below w0.heap.size w0 w5) from bl2 hbu.out b5
            clear hC b5 hbu
            go_wp2_with fail
            go_roundw
            case rel => exact ⟨j + 1, by first | rfl | go_num, by omega, hjm, HB.out⟩
            case measure => simp [intOf]; omega
          · obtain rfl : j = m := by omega
            have i3 : decide (x ≤ N) = false := decide_eq_false (by
              have h7 : aheadM lo j = aheadM lo (j - 1) + lenM lo j := by
                obtain ⟨i, rfl⟩ : ∃ i, j = i + 1 := ⟨j - 1, by omega⟩
                rfl
              have := HM.out
              have := HN.out.1
              omega)
            clear hx hx2
            go_wp2_with fail
            refine hC.mono ?_
            rintro e w5 ⟨rfl, b5⟩
            have HB := show Hid (Below w0.heap.size w0 w5) from bl2 hbu.out b5
            clear hC b5 hbu
            have hC := HRD.out w5 lo j h1 (by omega) h3 h4
            obtain ⟨x, hx⟩ : ∃ x : Int, (dayN lo j 1 : Int) - 719162 = x := ⟨_, rfl⟩
            have hx2 : dayN lo j 1 = aheadY lo + aheadM lo (j - 1) := rfl
            rw [hx] at hC
            have v1 : N - x = ((d - 1 : Nat) : Int) := by have := HM.out; have := HN.out.1; omega
            have v2 : IntKind.i64.wrap (N - x) = ((d - 1 : Nat) : Int) := by rw [v1, IntKind.wrap_i64]; omega
            have v3 : IntKind.i64.wrap (((d - 1 : Nat) : Int) + 1) = (d : Int) := by rw [IntKind.wrap_i64]; omega
            clear hx hx2 v1
            go_wp2_with fail
            refine hC.mono ?_
            rintro e w6 ⟨rfl, b6⟩
            have HF := show Hid (Below w0.heap.size w0 w6) from bl2 HB.out b6
            clear hC b6
            go_wp2_with fail
            refine bodyPost_ret (v := .tuple #[.int .i64 (lo : Int), .int .i64 (j : Int), .int .i64 (d : Int)]) ?_ rfl ⟨rfl, HF.out⟩
            simp [results, Tryd.results12, go_sem]
        · obtain rfl : j = 12 := by omega
          obtain rfl : m = 12 := by omega
          have i2 : decide (((12 : Nat) : Int) < 12) = false := by decide
          have hC := HRD.out wr lo 12 h1 (by omega) h3 h4
          obtain ⟨x, hx⟩ : ∃ x : Int, (dayN lo 12 1 : Int) - 719162 = x := ⟨_, rfl⟩
          have hx2 : dayN lo 12 1 = aheadY lo + aheadM lo (12 - 1) := rfl
          rw [hx] at hC
          have hC' := show Calls Tryd.prog 17 #[.int .i64 (lo : Int), .int .i64 12, .int .i64 1] wr fun e w' => e = .returned (.int .i64 x) ∧ Below wr.heap.size wr w' from hC
          have v1 : N - x = ((d - 1 : Nat) : Int) := by have := HM.out; have := HN.out.1; omega
          have v2 : IntKind.i64.wrap (N - x) = ((d - 1 : Nat) : Int) := by rw [v1, IntKind.wrap_i64]; omega
          have v3 : IntKind.i64.wrap (((d - 1 : Nat) : Int) + 1) = (d : Int) := by rw [IntKind.wrap_i64]; omega
          clear hx hx2 v1 hC
          go_wp2_with fail
          refine hC'.mono ?_
          rintro e w6 ⟨rfl, b6⟩
          have HF := show Hid (Below w0.heap.size w0 w6) from bl2 hbu.out b6
          clear hC' b6
          go_wp2_with fail
          refine bodyPost_ret (v := .tuple #[.int .i64 (lo : Int), .int .i64 12, .int .i64 (d : Int)]) ?_ rfl ⟨rfl, HF.out⟩
          simp [results, Tryd.results12, go_sem]
end Go.Proofs.YtbepjlhknmhmeaaDoor
