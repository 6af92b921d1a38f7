/-
  Package moment: dateOf.
-/
import Derived.Test.YtbepjlhknmhmeaaDoorMSearch
namespace Go.Proofs.YtbepjlhknmhmeaaDoor
open Go.RowKit Ch
set_option maxRecDepth 100000

def semDO (n y ay l0 : Nat) : Nat → Value → World → Prop := fun ix v _ => match ix with
  | 0 => v = .int .i64 (n : Int)
  | 1 => v = .int .i64 (y : Int)
  | 2 => v = .int .i64 (ay : Int)
  | 3 => v = .int .i64 (l0 : Int)
  | 4 => v = Value.int IntKind.i64 1
  | 5 => v = .int .i64 (l0 : Int)
  | _ => True
set_option maxHeartbeats 8000000 in
theorem mDateOf_any (y m d : Nat) (w : World) (hT : MTab w) (h : IsDay y m d) :
    Calls Tryd.prog 25 #[.int .i64 (dayN y m d : Int)] w fun e w' => e = .returned (.agg #[.int .i64 (y : Int), .int .i64 (m : Int), .int .i64 (d : Int)]) ∧ Below w.heap.size w w' := by
  have hy := day_year h
  obtain ⟨⟨h1, h2⟩, ⟨h3, h4⟩, h5, h6⟩ := h
  have hdm := day_month h3 h5 h6
  have hM12 := aheadM_small y 12
  have hmm := aheadM_mono y h4
  have hn4 : dayN y m d < 4000000 := by
    have := aheadY_small (y := y + 1) (by omega)
    omega
  have hd : dayN y m d = aheadY y + (aheadM y (m - 1) + (d - 1)) := by unfold dayN; omega
  obtain ⟨n, hn⟩ : ∃ n, dayN y m d = n := ⟨_, rfl⟩
  rw [hn] at hd hy hn4 ⊢
  obtain ⟨k, hk⟩ : ∃ k, y = k + 1 := ⟨y - 1, by omega⟩
  obtain ⟨ay, ha⟩ : ∃ a, aheadY y = a := ⟨_, rfl⟩
  have hAh := fun u => mAhead_any y u h1 (by omega)
  have HP1 : ∀ i, i < k → decide (n < aheadY (i + 2)) = false := fun i hi => decide_eq_false (by
    have := aheadY_le (show 1 ≤ i + 2 by omega) (show i + 2 ≤ y by omega)
    omega)
  have HP2 : ∀ i, k ≤ i → i < 9999 → decide (n < aheadY (i + 2)) = true := fun i hi _ => decide_eq_true (by
    have := aheadY_le (show 1 ≤ y + 1 by omega) (show y + 1 ≤ i + 2 by omega)
    omega)
  rw [ha] at hd hAh
  obtain ⟨l0, hl0⟩ : ∃ l, aheadM y (m - 1) + (d - 1) = l := ⟨_, rfl⟩
  have HL := show Hid (m ≤ 12 ∧ aheadM y (m - 1) + (d - 1) ≤ 1000) from ⟨h4, by omega⟩
  have HM := show Hid (1 ≤ m ∧ l0 + aheadM y (1 - 1) = aheadM y (m - 1) + (d - 1)) from ⟨h3, by show l0 + 0 = _; omega⟩
  have HD1 := show Hid (1 ≤ d ∧ d ≤ lenM y m) from ⟨h5, h6⟩
  have HA := show Hid (∀ u, Calls Tryd.prog 32 #[.int .i64 (y : Int)] u fun e w' => e = .returned (.int .i64 (ay : Int)) ∧ w' = u) from hAh
  have HW := show Hid (IntKind.i64.wrap ((n : Int) - (ay : Int)) = (l0 : Int)) from by show IntKind.i64.wrap ((n : Int) - (ay : Int)) = (l0 : Int); rw [IntKind.wrap_i64]; omega
  have hk1 : IntKind.i64.wrap (1 + (k : Int)) = (y : Int) := by rw [IntKind.wrap_i64]; omega
  have HK := show Hid ((k : Int) + 1 = (y : Int)) from by show (k : Int) + 1 = (y : Int); omega
  have hmf : ∀ (fn : Fn) (first cap : Array Value) (w : World), (Instr.makeFunc fn first cap).run Tryd.prog w = .ok (.func fn first cap) w := fun _ _ _ _ => rfl
  obtain ⟨q, hq⟩ : ∃ q, w.heap.size = q := ⟨_, rfl⟩
  have e1 := heap_push_at w (.cells #[.int .i64 (n : Int)] 3)
  have b1 := alB w (.cells #[.int .i64 (n : Int)] 3)
  obtain ⟨W0, hW0⟩ : ∃ W, w.alloc (.cells #[.int .i64 (n : Int)] 3) = W := ⟨_, rfl⟩
  have hz : W0.heap.size = q + 1 := by rw [← hW0, ← hq]; simp
  have HZ := show Hid (W0.heap.size = q + 1) from hz
  rw [hW0] at e1 b1
  have e2 := heap_push_at W0 (.cells #[.int .i64 0, .int .i64 0, .int .i64 0] 26)
  have b2 := alB W0 (.cells #[.int .i64 0, .int .i64 0, .int .i64 0] 26)
  have e1' := heap_push_old W0 (.cells #[.int .i64 0, .int .i64 0, .int .i64 0] 26) (k := q) (by omega)
  obtain ⟨W1, hW1⟩ : ∃ W, W0.alloc (.cells #[.int .i64 0, .int .i64 0, .int .i64 0] 26) = W := ⟨_, rfl⟩
  rw [hW1] at e2 b2 e1'
  rw [hq] at e1
  rw [hz] at e2
  rw [e1] at e1'
  have HE := show Hid (∀ u, Below W1.heap.size W1 u → Below q w u) from fun u hu => by rw [← hq]; exact bl2 (bl2 b1 b2) hu
  have HDI := show Hid (∀ u, Below W1.heap.size W1 u → ∀ j : Nat, 1 ≤ j → j ≤ 12 → Calls Tryd.prog 39 #[.int .i64 (y : Int), .int .i64 (j : Int)] u fun e w' => e = .returned (.int .i64 (lenM y j : Int)) ∧ w' = u) from fun u hu j x z => mDaysIn_any y j u x z (hT.later (bl2 (bl2 b1 b2) hu))
  have HU := show Hid (∀ u, Below W1.heap.size W1 u → u.cell? ⟨q, 0, none⟩ = some (.int .i64 (n : Int)) ∧ u.heap[q + 1]? = some (.cells #[.int .i64 0, .int .i64 0, .int .i64 0] 26)) from fun u hu => by
    have x1 := (hu.block q (block_lt e1')).trans e1'
    exact ⟨block_cell (v := .int .i64 (n : Int)) 0 x1 rfl, (hu.block (q + 1) (block_lt e2)).trans e2⟩
  have hSr := sSearch_any 38 q k (fun i => decide (n < aheadY (i + 2))) W1 (fun _ _ => rfl) (by omega) (fun u i hu hi => mDateOfF_any n i q u (by omega) (Nat.lt_of_lt_of_le (block_lt e1') hu.size) (HU.out u hu).1) HP1 HP2
  clear HP1 HP2 hAh hd ha hl0 hy hdm hM12 hmm hn hn4 h1 h2 h3 h4 h5 h6 hT e1 e1' e2 b1 b2 hz
  go_enter Tryd.func25, Tryd.ntmps25
  go_wp2_with fail
  refine hSr.mono ?_
  rintro e w2 ⟨rfl, hb2⟩
  have HB2 := show Hid (∀ u, Below w2.drew.heap.size w2.drew u → Below W1.heap.size W1 u) from fun u hu => bl2 hb2.drew hu
  clear hSr hb2
  go_wp2_with fail
  rw [HK.out, HZ.out]
  clear hk hk1 hmf hW0 hW1
  · skip
    refine free_walk (Sem := semDO n y ay l0) rfl (n := 30) (by kernel_rfl) rfl (by kernel_rfl) ?_ ?_ ?_
    · intro ix v u u' h hb
      match ix, h with
      | 0, h => exact h
      | 1, h => exact h
      | 2, h => exact h
      | 3, h => exact h
      | 4, h => exact h
      | 5, h => exact h
      | _ + 6, _ => exact trivial
    · intro ix o a u ho hF hbu
      match ix, ho, hF with
      | 0, ho, hF =>
        obtain rfl := Option.some.inj ho
        have h1 : a.tmps[1]? = some (.pointer (some ⟨q, 0, none⟩)) := (hF.out 1 rfl).trans rfl
        have g0 := (HU.out u (HB2.out u hbu)).1
        refine free_step rfl (by rfl) (fun K' hK => ?_)
        go_simp
        exact hK.out _ _ rfl (Below.refl _ _)
      | 1, ho, hF =>
        obtain rfl := Option.some.inj ho
        have h3 : a.tmps[3]? = some (.int .i64 (y : Int)) := (hF.out 3 rfl).trans rfl
        refine free_step rfl (by rfl) (fun K' hK => ?_)
        go_simp
        exact hK.out _ _ rfl (Below.refl _ _)
      | 2, ho, hF =>
        obtain rfl := Option.some.inj ho
        obtain ⟨v10, h10, s10⟩ := hF.dep 1 10 rfl rfl
        obtain rfl : v10 = .int .i64 (y : Int) := s10
        have hc := HA.out u
        refine free_step rfl (by rfl) (fun K' hK => ?_)
        go_wp2_with fail
        refine hc.mono ?_
        rintro e u' ⟨rfl, rfl⟩
        go_simp
        exact hK.out _ _ rfl (Below.refl _ _)
      | 3, ho, hF =>
        obtain rfl := Option.some.inj ho
        obtain ⟨v9, h9, s9⟩ := hF.dep 0 9 rfl rfl
        obtain rfl : v9 = .int .i64 (n : Int) := s9
        obtain ⟨v11, h11, s11⟩ := hF.dep 2 11 rfl rfl
        obtain rfl : v11 = .int .i64 (ay : Int) := s11
        have w3 := HW.out
        refine free_step rfl (by rfl) (fun K' hK => ?_)
        go_simp
        exact hK.out _ _ rfl (Below.refl _ _)
      | 4, ho, hF =>
        obtain rfl := Option.some.inj ho
        refine free_step rfl (by rfl) (fun K' hK => ?_)
        go_simp
        exact hK.out _ _ rfl (Below.refl _ _)
      | 5, ho, hF =>
        obtain rfl := Option.some.inj ho
        obtain ⟨v12, h12, s12⟩ := hF.dep 3 12 rfl rfl
        obtain rfl : v12 = .int .i64 (l0 : Int) := s12
        refine free_step rfl (by rfl) (fun K' hK => ?_)
        go_simp
        exact hK.out _ _ rfl (Below.refl _ _)
      | n + 6, ho, _ => exact absurd (Array.getElem?_eq_some_iff.1 ho).1 (by show ¬ n + 6 < 6; omega)
    · intro vs u hS hbu
      have e4 : vs 4 = (.int .i64 1) := hS 4 4 rfl
      have e5 : vs 5 = (.int .i64 (l0 : Int)) := hS 5 5 rfl
      simp only [putFrom, Act.put, List.setIfInBounds_toArray, List.set_cons_succ, List.set_cons_zero, Nat.reduceAdd]
      rw [e4]
      rw [e5]
      clear hS e4 e5
      generalize vs 0 = z0
      generalize vs 1 = z1
      generalize vs 2 = z2
      generalize vs 3 = z3
      have HB1 := show Hid (Below W1.heap.size W1 u) from HB2.out u hbu
      clear hbu HB2
      go_wp2_with fail
      go_loopw [4, 5] (fun t s wr => ∃ j v : Nat, 1 ≤ j ∧ j ≤ m ∧ t = .int .i64 (j : Int) ∧ s = .int .i64 (v : Int) ∧ Hid (v + aheadM y (j - 1) = aheadM y (m - 1) + (d - 1)) ∧ wr = u) (fun t _ _ => m - (intOf t).toNat)
      case atStart => exact ⟨1, l0, by omega, HM.out.1, rfl, rfl, HM.out.2, rfl⟩
      case round =>
        obtain ⟨j, v, hj1, hj, rfl, rfl, hv, rfl⟩ := hrel
        have hD := HDI.out wr HB1.out j hj1 (Nat.le_trans hj HL.out.1)
        have hl2 := lenM_bounds y j
        by_cases hlt : j < m
        · have hge : lenM y j ≤ v := by
            obtain ⟨k, rfl⟩ : ∃ k, j = k + 1 := ⟨j - 1, by omega⟩
            have h1 := aheadM_mono y (show k + 1 ≤ m - 1 by omega)
            have h2 := hv.out
            simp only [aheadM, Nat.add_sub_cancel] at h1 h2
            omega
          have HV := show Hid (v - lenM y j + aheadM y (j + 1 - 1) = aheadM y (m - 1) + (d - 1)) from by
            show v - lenM y j + aheadM y (j + 1 - 1) = aheadM y (m - 1) + (d - 1)
            obtain ⟨k, rfl⟩ : ∃ k, j = k + 1 := ⟨j - 1, by omega⟩
            have h2 := hv.out
            simp only [aheadM, Nat.add_sub_cancel] at h2 ⊢
            omega
          have hvb : v ≤ 1000 := by
            have h1 := HL.out.2
            have h2 := hv.out
            omega
          obtain ⟨l, hl⟩ : ∃ l, lenM y j = l := ⟨_, rfl⟩
          rw [hl] at hD hl2 hge HV
          have i1 : (l : Int) ≤ (v : Int) := by omega
          have w1 : IntKind.i64.wrap ((v : Int) - (l : Int)) = ((v - l : Nat) : Int) := by rw [IntKind.wrap_i64]; omega
          have w2 : IntKind.i64.wrap ((j : Int) + 1) = ((j + 1 : Nat) : Int) := by have := HL.out.1; rw [IntKind.wrap_i64]; omega
          have M1 := show Hid (j + 1 ≤ m) from hlt
          clear hv hl hl2 hge hvb hlt
          go_wp2_with fail
          refine hD.mono ?_
          rintro e w1 ⟨rfl, rfl⟩
          go_wp2_with fail
          refine hD.mono ?_
          rintro e w1 ⟨rfl, rfl⟩
          clear hD
          go_wp2_with fail
          go_roundw
          case rel => exact ⟨j + 1, v - l, by omega, M1.out, by first | rfl | go_num, by first | rfl | go_num, HV.out, by first | rfl | trivial⟩
          case measure => have := M1.out; simp [intOf]; omega
        · obtain rfl : j = m := by omega
          have hv2 : v = d - 1 := by have := hv.out; omega
          have hlt2 : v < lenM y j := by have := HL.out.2; have := HD1.out; omega
          obtain ⟨l, hl⟩ : ∃ l, lenM y j = l := ⟨_, rfl⟩
          rw [hl] at hD hl2 hlt2
          have i1 : ¬ (l : Int) ≤ (v : Int) := by omega
          have w1 : IntKind.i64.wrap ((v : Int) + 1) = (d : Int) := by have := HD1.out; rw [IntKind.wrap_i64]; omega
          have hR := (HU.out wr HB1.out).2
          have c0 := block_cell (v := .int .i64 0) 0 hR rfl
          have c1 := block_cell (v := .int .i64 0) 1 hR rfl
          have c2 := block_cell (v := .int .i64 0) 2 hR rfl
          have f0 := block_free 0 hR
          have f1 := block_free 1 hR
          have f2 := block_free 2 hR
          clear hv hl hl2 hlt2 hv2 hlt
          go_wp2_with fail
          refine hD.mono ?_
          rintro e w1 ⟨rfl, rfl⟩
          clear hD
          go_wp2_with fail
          have h3 : (((w1.setCell ⟨q + 1, 0, none⟩ (.int .i64 (y : Int))).setCell ⟨q + 1, 1, none⟩ (.int .i64 (j : Int))).setCell ⟨q + 1, 2, none⟩ (.int .i64 (d : Int))).heap[q + 1]? = some (.cells #[.int .i64 (y : Int), .int .i64 (j : Int), .int .i64 (d : Int)] 26) := setCell_block (i := 2) (u := .int .i64 (d : Int)) (setCell_block (i := 1) (u := .int .i64 (j : Int)) (setCell_block (i := 0) (u := .int .i64 (y : Int)) hR))
          have hb3 := (((HE.out w1 HB1.out).setCell (p := ⟨q + 1, 0, none⟩) (by show q ≤ q + 1; omega) (.int .i64 (y : Int))).setCell (p := ⟨q + 1, 1, none⟩) (by show q ≤ q + 1; omega) (.int .i64 (j : Int))).setCell (p := ⟨q + 1, 2, none⟩) (by show q ≤ q + 1; omega) (.int .i64 (d : Int))
          generalize ((w1.setCell ⟨q + 1, 0, none⟩ (.int .i64 (y : Int))).setCell ⟨q + 1, 1, none⟩ (.int .i64 (j : Int))).setCell ⟨q + 1, 2, none⟩ (.int .i64 (d : Int)) = W3 at h3 hb3 ⊢
          have q0 := block_cell (v := .int .i64 (y : Int)) 0 h3 rfl
          have q1 := block_cell (v := .int .i64 (j : Int)) 1 h3 rfl
          have q2 := block_cell (v := .int .i64 (d : Int)) 2 h3 rfl
          refine bodyPost_ret (v := .agg #[.int .i64 (y : Int), .int .i64 (j : Int), .int .i64 (d : Int)]) ?_ rfl ⟨rfl, by rw [hq]; exact hb3⟩
          simp [results, Tryd.results25, go_sem, q0, q1, q2]
end Go.Proofs.YtbepjlhknmhmeaaDoor
