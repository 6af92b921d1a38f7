/-
  Package moment: the calendar.
-/
import Derived.Test.YtbepjlhknmhmeaaDoorMRd
namespace Go.Proofs.YtbepjlhknmhmeaaDoor
open Go.RowKit Ch
set_option maxRecDepth 100000

theorem tmodN (y k : Nat) : (y : Int).tmod (k : Int) = ((y % k : Nat) : Int) := rfl
theorem tdivN (y k : Nat) : (y : Int).tdiv (k : Int) = ((y / k : Nat) : Int) := rfl
/-- A rest, as the walk reads it. -/
theorem rest_is (y k : Nat) : ∃ r : Int, (y : Int).tmod (k : Int) = r ∧ ((y % k = 0 ∧ r = 0) ∨ (y % k ≠ 0 ∧ (r == 0) = false ∧ (r != 0) = true ∧ ¬ r = 0)) := by
  refine ⟨_, tmodN y k, ?_⟩
  by_cases h : y % k = 0
  · exact .inl ⟨h, by rw [h]; rfl⟩
  · refine .inr ⟨h, beq_eq_false_iff_ne.2 (by omega), bne_iff_ne.2 (by omega), by omega⟩
set_option maxHeartbeats 4000000 in
theorem mLeap_any (y : Nat) (w : World) : Calls Tryd.prog 53 #[.int .i64 (y : Int)] w fun e w' => e = .returned (.bool (leapB y)) ∧ w' = w := by
  obtain ⟨r4, e4, h4⟩ := rest_is y 4
  obtain ⟨r100, e100, h100⟩ := rest_is y 100
  obtain ⟨r400, e400, h400⟩ := rest_is y 400
  simp only [Int.cast_ofNat_Int] at e4 e100 e400
  rcases h4 with ⟨h4, rfl⟩ | ⟨h4, a1, a2, a3⟩ <;> rcases h100 with ⟨h100, rfl⟩ | ⟨h100, b1, b2, b3⟩ <;> rcases h400 with ⟨h400, rfl⟩ | ⟨h400, c1, c2, c3⟩
  all_goals
    have hL := show Hid (leapB y = ((y % 4 == 0 && y % 100 != 0) || y % 400 == 0)) from rfl
    have q4 := h4
    have q100 := h100
    have q400 := h400
    go_enter Tryd.func53, Tryd.ntmps53
    go_wp2_with fail
    go_ret
    refine ⟨?_, rfl⟩
    rw [hL.out]
    simp [q4, q100, q400]
/-- The months' days in a common year. -/
def monthsC : Array Value := #[.int .i64 31, .int .i64 28, .int .i64 31, .int .i64 30, .int .i64 31, .int .i64 30, .int .i64 31, .int .i64 31, .int .i64 30, .int .i64 31, .int .i64 30, .int .i64 31]
/-- The program's own table of them. -/
def MTab (w : World) : Prop := ∃ t mk, w.heap[0]? = some (.cells monthsC t mk)
theorem MTab.later {w w' : World} (h : MTab w) (hb : Below w.heap.size w w') : MTab w' := by
  obtain ⟨t, mk, h⟩ := h
  exact ⟨t, mk, (hb.block 0 (block_lt h)).trans h⟩
theorem months_at : ∀ k, k < 12 → monthsC[k]? = some (.int .i64 ((if k + 1 = 2 then 28 else if k + 1 = 4 ∨ k + 1 = 6 ∨ k + 1 = 9 ∨ k + 1 = 11 then 30 else 31 : Nat) : Int))
  | 0, _ => rfl
  | 1, _ => rfl
  | 2, _ => rfl
  | 3, _ => rfl
  | 4, _ => rfl
  | 5, _ => rfl
  | 6, _ => rfl
  | 7, _ => rfl
  | 8, _ => rfl
  | 9, _ => rfl
  | 10, _ => rfl
  | 11, _ => rfl
  | n + 12, h => absurd h (by omega)
theorem MTab.cell {w : World} (h : MTab w) {y m k : Nat} (hk : m = k + 1) (h12 : m ≤ 12) (hl : m = 2 → leapB y = false) : w.cell? ⟨0, k, none⟩ = some (.int .i64 (lenM y m : Int)) := by
  obtain ⟨t, mk, h⟩ := h
  subst hk
  have h1 := months_at k (by omega)
  have e : lenM y (k + 1) = (if k + 1 = 2 then 28 else if k + 1 = 4 ∨ k + 1 = 6 ∨ k + 1 = 9 ∨ k + 1 = 11 then 30 else 31 : Nat) := by
    unfold lenM
    by_cases h2 : k + 1 = 2
    · rw [if_pos h2, if_pos h2, hl h2]
      rfl
    · rw [if_neg h2, if_neg h2]
  rw [e]
  simp only [World.cell?, h]
  exact h1
set_option maxHeartbeats 4000000 in
theorem mDaysIn_any (y m : Nat) (w : World) (h1 : 1 ≤ m) (h12 : m ≤ 12) (hT : MTab w) : Calls Tryd.prog 39 #[.int .i64 (y : Int), .int .i64 (m : Int)] w fun e w' => e = .returned (.int .i64 (lenM y m : Int)) ∧ w' = w := by
  obtain ⟨k, hk⟩ : ∃ k, m = k + 1 := ⟨m - 1, by omega⟩
  have hLp := mLeap_any y w
  have ew : wrap64 ((m : Int) - 1) = (k : Int) := by unfold wrap64; omega
  have ew2 : IntKind.i64.wrap ((m : Int) - 1) = (k : Int) := by rw [IntKind.wrap_i64]; omega
  have ek : (k : Int) < 12 := by omega
  by_cases hm : m = 2
  · have em : ((m : Int) == 2) = true := by rw [hm]; rfl
    by_cases hl : leapB y = true
    · have HL := show Hid (lenM y m = 29) from by
        show lenM y m = 29
        unfold lenM
        rw [if_pos hm, if_pos hl]
      rw [hl] at hLp
      clear hm hl hk
      go_enter Tryd.func39, Tryd.ntmps39
      go_wp2_with fail
      refine hLp.mono ?_
      rintro e w1 ⟨rfl, rfl⟩
      go_wp2_with fail
      go_ret
      exact ⟨by rw [HL.out]; rfl, rfl⟩
    · have hl2 : leapB y = false := by simpa using hl
      have gc := hT.cell hk h12 (fun _ => hl2)
      rw [hl2] at hLp
      clear hm hl hl2 hk hT
      go_enter Tryd.func39, Tryd.ntmps39
      go_wp2_with fail
      refine hLp.mono ?_
      rintro e w1 ⟨rfl, rfl⟩
      go_wp2_with fail
      go_ret
      exact ⟨rfl, rfl⟩
  · have em : ((m : Int) == 2) = false := beq_eq_false_iff_ne.2 (by omega)
    have gc := hT.cell (y := y) hk h12 (fun h => absurd h hm)
    clear hm hk hT hLp
    go_enter Tryd.func39, Tryd.ntmps39
    go_wp2_with fail
    go_ret
    exact ⟨rfl, rfl⟩
theorem w64 (b : Nat) (h : b ≤ 1000000) : wrap64 (b : Int) = (b : Int) := by
  unfold wrap64
  omega
theorem wrap_eq {x : Int} {n : Nat} (h : x = (n : Int)) (h1 : x ≤ 1000000000000) : IntKind.i64.wrap x = (n : Int) := by
  rw [IntKind.wrap_i64]
  omega
set_option maxHeartbeats 4000000 in
theorem mAhead_any (y : Nat) (w : World) (h1 : 1 ≤ y) (h2 : y ≤ 20000) : Calls Tryd.prog 32 #[.int .i64 (y : Int)] w fun e w' => e = .returned (.int .i64 (aheadY y : Int)) ∧ w' = w := by
  obtain ⟨k, hk⟩ : ∃ k, y = k + 1 := ⟨y - 1, by omega⟩
  have e0 : IntKind.i64.wrap ((y : Int) - 1) = (k : Int) := by rw [IntKind.wrap_i64]; omega
  have E0 := show Hid (IntKind.i64.wrap ((y : Int) - 1) = (k : Int)) from e0
  have q4 : (k : Int).tdiv 4 = ((k / 4 : Nat) : Int) := rfl
  have q100 : (k : Int).tdiv 100 = ((k / 100 : Nat) : Int) := rfl
  have q400 : (k : Int).tdiv 400 = ((k / 400 : Nat) : Int) := rfl
  obtain ⟨a, ha⟩ : ∃ a, k / 4 = a := ⟨_, rfl⟩
  obtain ⟨b, hb⟩ : ∃ b, k / 100 = b := ⟨_, rfl⟩
  obtain ⟨c, hc⟩ : ∃ c, k / 400 = c := ⟨_, rfl⟩
  rw [ha] at q4
  rw [hb] at q100
  rw [hc] at q400
  have K := show Hid ((k : Int).tdiv 4 = (a : Int) ∧ (k : Int).tdiv 100 = (b : Int) ∧ (k : Int).tdiv 400 = (c : Int)) from ⟨q4, q100, q400⟩
  obtain ⟨n, hn⟩ : ∃ n, aheadY y = n := ⟨_, rfl⟩
  have HA := show Hid (aheadY y = n) from hn
  unfold aheadY at hn
  rw [hk, Nat.add_sub_cancel, ha, hb, hc] at hn
  have la : a ≤ k := by omega
  have lb : b ≤ a := by omega
  have lc : c ≤ k := by omega
  have lk : k ≤ 20000 := by omega
  have w0 := w64 a (Nat.le_trans la (Nat.le_trans lk (by decide)))
  have w0b := w64 b (Nat.le_trans lb (Nat.le_trans la (Nat.le_trans lk (by decide))))
  have w0c := w64 c (Nat.le_trans lc (Nat.le_trans lk (by decide)))
  have W0 := show Hid (wrap64 (a : Int) = (a : Int) ∧ wrap64 (b : Int) = (b : Int) ∧ wrap64 (c : Int) = (c : Int)) from ⟨w0, w0b, w0c⟩
  clear w0 w0b w0c
  clear ha hb hc hk q4 q100 q400 e0
  obtain ⟨p1, hp1⟩ : ∃ p, 365 * k = p := ⟨_, rfl⟩
  rw [hp1] at hn
  obtain ⟨p2, hp2⟩ : ∃ p, p1 + a = p := ⟨_, rfl⟩
  rw [hp2] at hn
  obtain ⟨p3, hp3⟩ : ∃ p, p2 = b + p := ⟨p2 - b, by omega⟩
  rw [hp3, Nat.add_sub_cancel_left] at hn
  have l1 : p1 ≤ 7300000 := by omega
  have l2 : p2 ≤ 7400000 := by omega
  have m1 : IntKind.i64.wrap (365 * (k : Int)) = (p1 : Int) := wrap_eq (by omega) (by omega)
  have m2 : IntKind.i64.wrap ((p1 : Int) + (a : Int)) = (p2 : Int) := wrap_eq (by omega) (by omega)
  have m3 : IntKind.i64.wrap ((p2 : Int) - (b : Int)) = (p3 : Int) := wrap_eq (by omega) (by omega)
  have m4 : IntKind.i64.wrap ((p3 : Int) + (c : Int)) = (n : Int) := wrap_eq (by omega) (by omega)
  rw [HA.out]
  obtain ⟨q4, q100, q400⟩ := K.out
  have e0 := E0.out
  obtain ⟨w0, w0b, w0c⟩ := W0.out
  clear la lb lc lk hn hp1 hp2 hp3 h1 h2 l1 l2
  go_enter Tryd.func32, Tryd.ntmps32
  go_wp2_with fail
  go_ret
  exact ⟨rfl, rfl⟩
set_option maxHeartbeats 4000000 in
theorem mAheadM_any (y m : Nat) (w : World) (h1 : 1 ≤ m) (h12 : m ≤ 12) (hT : MTab w) : Calls Tryd.prog 33 #[.int .i64 (y : Int), .int .i64 (m : Int)] w fun e w' => e = .returned (.int .i64 (aheadM y (m - 1) : Int)) ∧ w' = w := by
  have HT := show Hid (∀ j : Nat, 1 ≤ j → j ≤ 12 → Calls Tryd.prog 39 #[.int .i64 (y : Int), .int .i64 (j : Int)] w fun e w' => e = .returned (.int .i64 (lenM y j : Int)) ∧ w' = w) from fun j a b => mDaysIn_any y j w a b hT
  clear hT
  go_enter Tryd.func33, Tryd.ntmps33
  go_wp2_with fail
  go_loopw [5, 6] (fun a t wr => ∃ j v : Nat, 1 ≤ j ∧ j ≤ m ∧ a = .int .i64 (v : Int) ∧ t = .int .i64 (j : Int) ∧ Hid (v = aheadM y (j - 1) ∧ wr = w)) (fun _ t _ => m - (intOf t).toNat)
  case atStart => exact ⟨1, 0, by omega, h1, rfl, rfl, rfl, rfl⟩
  case round =>
    obtain ⟨j, v, hj1, hj, rfl, rfl, hv⟩ := hrel
    obtain ⟨hv1, rfl⟩ := hv.out
    by_cases hlt : j < m
    · have hltI : (j : Int) < (m : Int) := by omega
      have hb : v ≤ 31 * 12 := by
        have q : ∀ k, aheadM y k ≤ 31 * k := fun k => by
          induction k with
          | zero => exact Nat.le_refl _
          | succ k ih =>
            have := lenM_bounds y (k + 1)
            simp only [aheadM]
            omega
        have := q (j - 1)
        omega
      obtain ⟨l, hl⟩ : ∃ l, lenM y j = l := ⟨_, rfl⟩
      have hl2 := lenM_bounds y j
      have hD := HT.out j hj1 (by omega)
      rw [hl] at hD hl2
      obtain ⟨u, hu⟩ : ∃ u, v + l = u := ⟨_, rfl⟩
      have w1 : IntKind.i64.wrap ((v : Int) + (l : Int)) = (u : Int) := by rw [IntKind.wrap_i64]; omega
      have w2 : IntKind.i64.wrap ((j : Int) + 1) = ((j + 1 : Nat) : Int) := by rw [IntKind.wrap_i64]; omega
      have HV := show Hid (u = aheadM y (j + 1 - 1)) from by
        obtain ⟨k, rfl⟩ : ∃ k, j = k + 1 := ⟨j - 1, by omega⟩
        show u = aheadM y (k + 1)
        simp only [aheadM, hl, Nat.add_sub_cancel] at hv1 ⊢
        omega
      clear hv hv1 hb hl hl2 hu
      go_wp2_with fail
      refine hD.mono ?_
      rintro e w1 ⟨rfl, rfl⟩
      clear hD
      go_wp2_with fail
      go_roundw
      case rel => exact ⟨j + 1, u, by omega, by omega, by first | rfl | go_num, by first | rfl | go_num, HV.out, by first | rfl | trivial⟩
      case measure => simp [intOf]; omega
    · have hltI : ¬ (j : Int) < (m : Int) := by omega
      obtain rfl : j = m := by omega
      have HV := show Hid (v = aheadM y (j - 1)) from hv1
      clear hv hv1
      go_wp2_with fail
      go_ret
      exact ⟨by rw [HV.out] <;> rfl, rfl⟩
end Go.Proofs.YtbepjlhknmhmeaaDoor
