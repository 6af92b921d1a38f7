/-
  The law MomentDays.
-/
import Derived.Test.YtbepjlhknmhmeaaDoorMRight
import Derived.Test.YtbepjlhknmhmeaaDoorMRefD
import Derived.Test.YtbepjlhknmhmeaaDoorMEq
namespace Go.Proofs.YtbepjlhknmhmeaaDoor
open Go.RowKit Ch
set_option maxRecDepth 100000

theorem last_day : IsDay 9999 12 31 ∧ dayN 9999 12 31 = 3652058 := by decide
set_option maxHeartbeats 16000000 in
theorem lmDays_any (y m d : Int) (w : World) (h : Laid10 w) : Calls Tryd.prog 4 #[.int .i64 y, .int .i64 m, .int .i64 d] w fun e w' => e = .returned (.bool true) ∧ Below w.heap.size w w' := by
  have hAw := lmAwake_any w h
  have HL := show Hid (∀ u, Below w.heap.size w u → Laid10 u) from fun u hu => h.later hu
  have hRt := fun u => rmRight_any y m d u
  clear h
  go_enter Tryd.func4, Tryd.ntmps4
  go_wp2_with fail
  refine hAw.mono ?_
  rintro e w1 ⟨rfl, b1⟩
  have hM1 := (HL.out w1 b1).months
  have HB1 := show Hid (Below w.heap.size w w1) from b1
  clear hAw b1
  by_cases hR : RightI y m d
  case neg =>
    have hD := mDaysI_bad y m d w1 hM1 hR
    simp only [decide_eq_false hR] at hRt
    clear hM1 hR
    go_wp2_with fail
    refine hD.mono ?_
    rintro e w2 ⟨rfl, rfl⟩
    go_wp2_with fail
    refine (hRt w2).mono ?_
    rintro e w3 ⟨rfl, b3⟩
    have HF := show Hid (Below w.heap.size w w3) from bl2 HB1.out b3
    clear hD hRt b3
    go_wp2_with fail
    go_ret
    exact ⟨by first | rfl | simp, HF.out⟩
  simp only [decide_eq_true hR] at hRt
  obtain ⟨Y, M, D, rfl, rfl, rfl, hd⟩ := right_nat hR
  have hD := mDaysI_ok (Y : Int) (M : Int) (D : Int) Y M D w1 hM1 rfl rfl rfl hd
  have hRD := fun u => rmDays_any Y M D u hd.1.1 (by have := hd.1.2; omega) hd.2.1.1 hd.2.1.2 hd.2.2.1 (by have := hd.2.2.2; have := lenM_bounds Y M; omega)
  have hs := dayN_small hd
  obtain ⟨N, hN⟩ : ∃ N : Int, (dayN Y M D : Int) - 719162 = N := ⟨_, rfl⟩
  rw [hN] at hD
  simp only [hN] at hRD
  obtain ⟨P1, hP1⟩ : ∃ P : Int, N * 86400000 = P := ⟨_, rfl⟩
  obtain ⟨P2, hP2⟩ : ∃ P : Int, (N + 1) * 86400000 = P := ⟨_, rfl⟩
  have wP1 : IntKind.i64.wrap (N * 86400000) = P1 := by rw [IntKind.wrap_i64]; omega
  have wP2 : IntKind.i64.wrap ((N + 1) * 86400000) = P2 := by rw [IntKind.wrap_i64]; omega
  have wN : IntKind.i64.wrap (N + 1) = N + 1 := by rw [IntKind.wrap_i64]; omega
  have hDt := fun u (hu : Laid10 u) => mDate_ok P1 Y M D 0 u ⟨hd, by decide, by omega⟩ hu.months
  have HDt := show Hid (∀ u, Laid10 u → Calls Tryd.prog 10 #[.int .i64 P1] u fun e w' => e = .returned (.tuple #[.agg #[.int .i64 (Y : Int), .int .i64 (M : Int), .int .i64 (D : Int)], .int .i64 0]) ∧ Below u.heap.size u w') from hDt
  have HP := show Hid ((dayN Y M D : Int) - 719162 = N ∧ (N + 1) * 86400000 = P2) from ⟨hN, hP2⟩
  have HDay := show Hid (IsDay Y M D ∧ dayN Y M D < 3652059) from ⟨hd, hs⟩
  clear hM1 hR hd hN hP1 hP2 hDt hs
  go_wp2_with fail
  refine hD.mono ?_
  rintro e w2 ⟨rfl, rfl⟩
  go_wp2_with fail
  refine (hRt w2).mono ?_
  rintro e w3 ⟨rfl, b3⟩
  have HB3 := show Hid (Below w.heap.size w w3) from bl2 HB1.out b3
  have hRD3 := hRD w3
  clear hD hRt b3 hRD
  go_wp2_with fail
  refine hRD3.mono ?_
  rintro e w4 ⟨rfl, b4⟩
  have HB4 := show Hid (Below w.heap.size w w4) from bl2 HB3.out b4
  have hDt := HDt.out w4 (HL.out w4 HB4.out)
  clear hRD3 b4 HDt
  go_wp2_with fail
  refine hDt.mono ?_
  rintro e w5 ⟨rfl, b5⟩
  have e6 := heap_push_at w5 (.cells #[.int .i64 (Y : Int), .int .i64 (M : Int), .int .i64 (D : Int)] 26)
  have b6 := alB w5 (.cells #[.int .i64 (Y : Int), .int .i64 (M : Int), .int .i64 (D : Int)] 26)
  obtain ⟨q, hq⟩ : ∃ q, w5.heap.size = q := ⟨_, rfl⟩
  obtain ⟨w6, hW6⟩ : ∃ W, w5.alloc (.cells #[.int .i64 (Y : Int), .int .i64 (M : Int), .int .i64 (D : Int)] 26) = W := ⟨_, rfl⟩
  rw [hW6] at e6 b6
  rw [hq] at e6
  have HB6 := show Hid (Below w.heap.size w w6) from bl2 (bl2 HB4.out b5) b6
  have HQ := show Hid (w.heap.size ≤ q) from by have h1 := (bl2 HB4.out b5).size; show w.heap.size ≤ q; omega
  obtain ⟨g0, g1, g2, _⟩ := cells3 e6
  have hq3 := eq3_same (Y : Int) (M : Int) (D : Int)
  clear hDt b5 b6
  by_cases hlast : dayN Y M D = 3652058
  · obtain ⟨rfl, rfl, rfl⟩ := dayN_inj HDay.out.1 last_day.1 (hlast.trans last_day.2.symm)
    have hD2 := mDate_bad P2 w6 (by have := HP.out; unfold IsMom; omega)
    clear hlast
    have hq4 := eq3_same 9999 12 31
    have hW6' := show w5.alloc (.cells #[.int .i64 9999, .int .i64 12, .int .i64 31] 26) = w6 from hW6
    have g0' := show w6.cell? ⟨q, 0, none⟩ = some (.int .i64 9999) from g0
    have g1' := show w6.cell? ⟨q, 1, none⟩ = some (.int .i64 12) from g1
    have g2' := show w6.cell? ⟨q, 2, none⟩ = some (.int .i64 31) from g2
    clear g0 g1 g2 hW6
    go_wp2_with fail
    refine hD2.mono ?_
    rintro e w7 ⟨rfl, b7⟩
    have e7 := (b7.block q (block_lt e6)).trans e6
    have HB7 := show Hid (Below w.heap.size w w7) from bl2 HB6.out b7
    clear hD2 b7 e6
    obtain ⟨c0, c1, c2, f0, f1, f2⟩ := cells3 e7
    have b3 := below3 HB7.out HQ.out (.int .i64 0) (.int .i64 0) (.int .i64 0)
    obtain ⟨W8, hW8⟩ : ∃ W, ((w7.setCell ⟨q, 0, none⟩ (.int .i64 0)).setCell ⟨q, 1, none⟩ (.int .i64 0)).setCell ⟨q, 2, none⟩ (.int .i64 0) = W := ⟨_, rfl⟩
    rw [hW8] at b3
    have HB8 := show Hid (Below w.heap.size w W8) from b3
    clear e7 b3
    go_wp2_with fail
    go_ret
    exact ⟨by first | rfl | simp, HB8.out⟩
  have HN := show Hid (dayN Y M D + 1 < 3652059) from by have := HDay.out.2; show dayN Y M D + 1 < 3652059; omega
  by_cases y1 : Y = 9999
  case neg =>
    have i1 : ((Y : Int) == 9999) = false := beq_eq_false_iff_ne.2 (by omega)
    obtain ⟨Y2, M2, D2, hd2, hn2⟩ := day_ex (dayN Y M D + 1) HN.out
    have hD2 := mDate_ok P2 Y2 M2 D2 0 w6 ⟨hd2, by decide, by rw [hn2]; have := HP.out; omega⟩ (HL.out w6 HB6.out).months
    have hDy2 := fun u hu => mDaysI_ok (Y2 : Int) (M2 : Int) (D2 : Int) Y2 M2 D2 u hu rfl rfl rfl hd2
    have eN : (dayN Y2 M2 D2 : Int) - 719162 = N + 1 := by rw [hn2]; have := HP.out; omega
    rw [eN] at hDy2
    have HDy := show Hid (∀ u, MTab u → Calls Tryd.prog 15 #[.int .i64 (Y2 : Int), .int .i64 (M2 : Int), .int .i64 (D2 : Int)] u fun e w' => e = .returned (.tuple #[.int .i64 (N + 1), .int .i64 0]) ∧ w' = u) from hDy2
    clear eN hDy2 hd2 hn2 hlast y1
    go_wp2_with fail
    refine hD2.mono ?_
    rintro e w7 ⟨rfl, b7⟩
    have e7 := (b7.block q (block_lt e6)).trans e6
    have HB7 := show Hid (Below w.heap.size w w7) from bl2 HB6.out b7
    clear hD2 b7 e6
    obtain ⟨c0, c1, c2, f0, f1, f2⟩ := cells3 e7
    have h3 := set3 e7 (.int .i64 (Y2 : Int)) (.int .i64 (M2 : Int)) (.int .i64 (D2 : Int))
    have b3 := below3 HB7.out HQ.out (.int .i64 (Y2 : Int)) (.int .i64 (M2 : Int)) (.int .i64 (D2 : Int))
    obtain ⟨W8, hW8⟩ : ∃ W, ((w7.setCell ⟨q, 0, none⟩ (.int .i64 (Y2 : Int))).setCell ⟨q, 1, none⟩ (.int .i64 (M2 : Int))).setCell ⟨q, 2, none⟩ (.int .i64 (D2 : Int)) = W := ⟨_, rfl⟩
    rw [hW8] at h3 b3
    have HB8 := show Hid (Below w.heap.size w W8) from b3
    obtain ⟨k0, k1, k2, _⟩ := cells3 h3
    have hDD := HDy.out W8 (HL.out W8 HB8.out).months
    clear e7 h3 b3 HDy
    go_wp2_with fail
    refine hDD.mono ?_
    rintro e w9 ⟨rfl, rfl⟩
    clear hDD
    go_wp2_with fail
    go_ret
    exact ⟨by first | rfl | simp, HB8.out⟩
  have i1 : ((Y : Int) == 9999) = true := by rw [y1]; rfl
  by_cases y2 : M = 12
  case neg =>
    have i2 : ((M : Int) == 12) = false := beq_eq_false_iff_ne.2 (by omega)
    obtain ⟨Y2, M2, D2, hd2, hn2⟩ := day_ex (dayN Y M D + 1) HN.out
    have hD2 := mDate_ok P2 Y2 M2 D2 0 w6 ⟨hd2, by decide, by rw [hn2]; have := HP.out; omega⟩ (HL.out w6 HB6.out).months
    have hDy2 := fun u hu => mDaysI_ok (Y2 : Int) (M2 : Int) (D2 : Int) Y2 M2 D2 u hu rfl rfl rfl hd2
    have eN : (dayN Y2 M2 D2 : Int) - 719162 = N + 1 := by rw [hn2]; have := HP.out; omega
    rw [eN] at hDy2
    have HDy := show Hid (∀ u, MTab u → Calls Tryd.prog 15 #[.int .i64 (Y2 : Int), .int .i64 (M2 : Int), .int .i64 (D2 : Int)] u fun e w' => e = .returned (.tuple #[.int .i64 (N + 1), .int .i64 0]) ∧ w' = u) from hDy2
    clear eN hDy2 hd2 hn2 hlast y1 y2
    go_wp2_with fail
    refine hD2.mono ?_
    rintro e w7 ⟨rfl, b7⟩
    have e7 := (b7.block q (block_lt e6)).trans e6
    have HB7 := show Hid (Below w.heap.size w w7) from bl2 HB6.out b7
    clear hD2 b7 e6
    obtain ⟨c0, c1, c2, f0, f1, f2⟩ := cells3 e7
    have h3 := set3 e7 (.int .i64 (Y2 : Int)) (.int .i64 (M2 : Int)) (.int .i64 (D2 : Int))
    have b3 := below3 HB7.out HQ.out (.int .i64 (Y2 : Int)) (.int .i64 (M2 : Int)) (.int .i64 (D2 : Int))
    obtain ⟨W8, hW8⟩ : ∃ W, ((w7.setCell ⟨q, 0, none⟩ (.int .i64 (Y2 : Int))).setCell ⟨q, 1, none⟩ (.int .i64 (M2 : Int))).setCell ⟨q, 2, none⟩ (.int .i64 (D2 : Int)) = W := ⟨_, rfl⟩
    rw [hW8] at h3 b3
    have HB8 := show Hid (Below w.heap.size w W8) from b3
    obtain ⟨k0, k1, k2, _⟩ := cells3 h3
    have hDD := HDy.out W8 (HL.out W8 HB8.out).months
    clear e7 h3 b3 HDy
    go_wp2_with fail
    refine hDD.mono ?_
    rintro e w9 ⟨rfl, rfl⟩
    clear hDD
    go_wp2_with fail
    go_ret
    exact ⟨by first | rfl | simp, HB8.out⟩
  have i2 : ((M : Int) == 12) = true := by rw [y2]; rfl
  have y3 : D ≠ 31 := fun h => hlast (by rw [y1, y2, h]; exact last_day.2)
  have i3 : ((D : Int) == 31) = false := beq_eq_false_iff_ne.2 (by omega)
  obtain ⟨Y2, M2, D2, hd2, hn2⟩ := day_ex (dayN Y M D + 1) HN.out
  have hD2 := mDate_ok P2 Y2 M2 D2 0 w6 ⟨hd2, by decide, by rw [hn2]; have := HP.out; omega⟩ (HL.out w6 HB6.out).months
  have hDy2 := fun u hu => mDaysI_ok (Y2 : Int) (M2 : Int) (D2 : Int) Y2 M2 D2 u hu rfl rfl rfl hd2
  have eN : (dayN Y2 M2 D2 : Int) - 719162 = N + 1 := by rw [hn2]; have := HP.out; omega
  rw [eN] at hDy2
  have HDy := show Hid (∀ u, MTab u → Calls Tryd.prog 15 #[.int .i64 (Y2 : Int), .int .i64 (M2 : Int), .int .i64 (D2 : Int)] u fun e w' => e = .returned (.tuple #[.int .i64 (N + 1), .int .i64 0]) ∧ w' = u) from hDy2
  clear eN hDy2 hd2 hn2 hlast y1 y2 y3
  go_wp2_with fail
  refine hD2.mono ?_
  rintro e w7 ⟨rfl, b7⟩
  have e7 := (b7.block q (block_lt e6)).trans e6
  have HB7 := show Hid (Below w.heap.size w w7) from bl2 HB6.out b7
  clear hD2 b7 e6
  obtain ⟨c0, c1, c2, f0, f1, f2⟩ := cells3 e7
  have h3 := set3 e7 (.int .i64 (Y2 : Int)) (.int .i64 (M2 : Int)) (.int .i64 (D2 : Int))
  have b3 := below3 HB7.out HQ.out (.int .i64 (Y2 : Int)) (.int .i64 (M2 : Int)) (.int .i64 (D2 : Int))
  obtain ⟨W8, hW8⟩ : ∃ W, ((w7.setCell ⟨q, 0, none⟩ (.int .i64 (Y2 : Int))).setCell ⟨q, 1, none⟩ (.int .i64 (M2 : Int))).setCell ⟨q, 2, none⟩ (.int .i64 (D2 : Int)) = W := ⟨_, rfl⟩
  rw [hW8] at h3 b3
  have HB8 := show Hid (Below w.heap.size w W8) from b3
  obtain ⟨k0, k1, k2, _⟩ := cells3 h3
  have hDD := HDy.out W8 (HL.out W8 HB8.out).months
  clear e7 h3 b3 HDy
  go_wp2_with fail
  refine hDD.mono ?_
  rintro e w9 ⟨rfl, rfl⟩
  clear hDD
  go_wp2_with fail
  go_ret
  exact ⟨by first | rfl | simp, HB8.out⟩
end Go.Proofs.YtbepjlhknmhmeaaDoor
