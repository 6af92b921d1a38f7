/-
  The reference of layer 10: Days.
-/
import Derived.Test.YtbepjlhknmhmeaaDoorMRefL
namespace Go.Proofs.YtbepjlhknmhmeaaDoor
open Go.RowKit Ch
set_option maxRecDepth 100000

theorem aheadY_400 {j : Nat} (h : 1 ≤ j) : aheadY (j + 400) = aheadY j + 146097 := by
  unfold aheadY
  omega
set_option maxHeartbeats 16000000 in
theorem rmDays_any (y m d : Nat) (w : World) (h1 : 1 ≤ y) (h2 : y ≤ 10000) (h3 : 1 ≤ m) (h4 : m ≤ 12) (h5 : 1 ≤ d) (h6 : d ≤ 31) : Calls Tryd.prog 17 #[.int .i64 (y : Int), .int .i64 (m : Int), .int .i64 (d : Int)] w fun e w' => e = .returned (.int .i64 ((dayN y m d : Int) - 719162)) ∧ Below w.heap.size w w' := by
  have HLen := show Hid (∀ (u : World) (a b : Nat), 1 ≤ b → b ≤ 12 → Calls Tryd.prog 34 #[.int .i64 (a : Int), .int .i64 (b : Int)] u fun e w' => e = .returned (.int .i64 (lenM a b : Int)) ∧ Below u.heap.size u w') from fun u a b x z => rmLength_any a b u x z
  have HD := show Hid (dayN y m d = aheadY y + aheadM y (m - 1) + (d - 1)) from rfl
  have hs := aheadY_small h2
  go_enter Tryd.func17, Tryd.ntmps17
  go_wp2_with fail
  go_loopw [7, 8] (fun a t wr => ∃ (v : Int) (j : Nat), a = .int .i64 v ∧ t = .int .i64 (j : Int) ∧ 1 ≤ j ∧ j ≤ y ∧ -719162 ≤ v ∧ v ≤ 4000000 ∧ Hid (v = (aheadY j : Int) - 719162 ∧ Below w.heap.size w wr)) (fun _ t _ => y - (intOf t).toNat)
  case atStart => exact ⟨-719162, 1, rfl, rfl, Nat.le_refl _, h1, by omega, by omega, ⟨by rw [aheadY_one]; rfl, Below.refl _ _⟩⟩
  case round =>
    obtain ⟨v, j, rfl, rfl, hj1, hj2, hv1, hv2, hv⟩ := hrel
    have hv3 := hv.out.1
    have HB0 := show Hid (Below w.heap.size w wr) from hv.out.2
    have wj : IntKind.i64.wrap ((j : Int) + 400) = ((j + 400 : Nat) : Int) := by rw [IntKind.wrap_i64]; omega
    by_cases hlt : j + 400 ≤ y
    · have i1 : ((j + 400 : Nat) : Int) ≤ (y : Int) := by omega
      have h400 := aheadY_400 hj1
      have hsm := aheadY_small (y := j + 400) (by omega)
      have HV := show Hid (v + 146097 = (aheadY (j + 400) : Int) - 719162) from by show v + 146097 = _; omega
      have wv : IntKind.i64.wrap (v + 146097) = v + 146097 := by rw [IntKind.wrap_i64]; omega
      have HB := show Hid (-719162 ≤ v + 146097 ∧ v + 146097 ≤ 4000000) from by constructor <;> omega
      clear hv hv3 h400 hsm hv1 hv2
      go_wp2_with fail
      go_roundw
      case rel => exact ⟨v + 146097, j + 400, by first | rfl | go_num, by first | rfl | go_num, by omega, hlt, HB.out.1, HB.out.2, ⟨HV.out, HB0.out⟩⟩
      case measure => simp [intOf]; omega
    · have i1 : ¬ ((j + 400 : Nat) : Int) ≤ (y : Int) := by omega
      have HV := show Hid (v = (aheadY j : Int) - 719162) from hv3
      clear hv hv3 hlt
      go_wp2_with fail
      clear wj i1
      go_loopw [7, 8] (fun a t u => ∃ (v : Int) (j : Nat), a = .int .i64 v ∧ t = .int .i64 (j : Int) ∧ 1 ≤ j ∧ j ≤ y ∧ -719162 ≤ v ∧ v ≤ 4000000 ∧ Hid (v = (aheadY j : Int) - 719162 ∧ Below w.heap.size w u)) (fun _ t _ => y - (intOf t).toNat)
      case atStart => exact ⟨v, j, rfl, rfl, hj1, hj2, hv1, hv2, ⟨HV.out, HB0.out⟩⟩
      case round =>
        clear HV hv1 hv2 hj1 hj2
        obtain ⟨v, j, rfl, rfl, hj1, hj2, hv1, hv2, hv⟩ := hrel
        by_cases hlt : j < y
        · have i1 : (j : Int) < (y : Int) := by omega
          go_wp2_with fail
          go_loopw [7, 9] (fun a t u => ∃ (x : Int) (k : Nat), a = .int .i64 x ∧ t = .int .i64 (k : Int) ∧ 1 ≤ k ∧ k ≤ 13 ∧ Hid (x = (aheadY j : Int) + (aheadM j (k - 1) : Int) - 719162 ∧ Below w.heap.size w u)) (fun _ t _ => 13 - (intOf t).toNat)
          case atStart => exact ⟨v, 1, rfl, rfl, Nat.le_refl _, by omega, ⟨by show v = (aheadY j : Int) + ((0 : Nat) : Int) - 719162; have := hv.out.1; omega, hv.out.2⟩⟩
          case round =>
            obtain ⟨x, k, rfl, rfl, hk1, hk2, hx⟩ := hrel
            have hx1 := hx.out.1
            have hxb := aheadM_small j (k - 1)
            have hxa := aheadY_small (y := j) (by omega)
            by_cases hk : k ≤ 12
            · have i2 : (k : Int) ≤ 12 := by omega
              obtain ⟨l, hl⟩ : ∃ l, lenM j k = l := ⟨_, rfl⟩
              have hlb := lenM_bounds j k
              have HX := show Hid (x + (l : Int) = (aheadY j : Int) + (aheadM j (k + 1 - 1) : Int) - 719162) from by
                show x + (l : Int) = (aheadY j : Int) + (aheadM j (k + 1 - 1) : Int) - 719162
                obtain ⟨i, rfl⟩ : ∃ i, k = i + 1 := ⟨k - 1, by omega⟩
                simp only [aheadM, Nat.add_sub_cancel, hl] at hx1 ⊢
                omega
              rw [hl] at hlb
              have wx : IntKind.i64.wrap (x + (l : Int)) = x + (l : Int) := by rw [IntKind.wrap_i64]; omega
              have wk : IntKind.i64.wrap ((k : Int) + 1) = ((k + 1 : Nat) : Int) := by rw [IntKind.wrap_i64]; omega
              have HBx := show Hid (Below w.heap.size w wr) from hx.out.2
              have hC := HLen.out wr j k hk1 hk
              rw [hl] at hC
              clear hx hx1 hxb hxa hlb hl
              go_wp2_with fail
              refine hC.mono ?_
              rintro e w2 ⟨rfl, b2⟩
              have HB2 := show Hid (Below w.heap.size w w2) from bl2 HBx.out b2
              clear hC b2 HBx
              go_wp2_with fail
              go_roundw
              case rel => exact ⟨x + (l : Int), k + 1, by first | rfl | go_num, by first | rfl | go_num, by omega, by omega, ⟨HX.out, HB2.out⟩⟩
              case measure => simp [intOf]; omega
            · obtain rfl : k = 13 := by omega
              have i2 : ¬ ((13 : Nat) : Int) ≤ 12 := by omega
              have hyn := year_next j hj1
              have hsm := aheadY_small (y := j + 1) (by omega)
              have HX := show Hid (x = (aheadY (j + 1) : Int) - 719162) from by
                show x = (aheadY (j + 1) : Int) - 719162
                have : aheadM j (13 - 1) = aheadM j 12 := rfl
                omega
              have HBd := show Hid (-719162 ≤ x ∧ x ≤ 4000000) from by have := HX.out; constructor <;> omega
              have wk : IntKind.i64.wrap ((j : Int) + 1) = ((j + 1 : Nat) : Int) := by rw [IntKind.wrap_i64]; omega
              have HBx := show Hid (Below w.heap.size w wr) from hx.out.2
              clear hx hx1 hxb hxa hyn hsm
              go_wp2_with fail
              go_roundw
              case rel => exact ⟨x, j + 1, rfl, by first | rfl | go_num, by omega, hlt, HBd.out.1, HBd.out.2, ⟨HX.out, HBx.out⟩⟩
              case measure => simp [intOf]; omega
        · obtain rfl : j = y := by omega
          have i1 : ¬ (j : Int) < (j : Int) := by omega
          go_wp2_with fail
          go_loopw [7, 10] (fun a t u => ∃ (x : Int) (k : Nat), a = .int .i64 x ∧ t = .int .i64 (k : Int) ∧ 1 ≤ k ∧ k ≤ m ∧ Hid (x = (aheadY j : Int) + (aheadM j (k - 1) : Int) - 719162 ∧ Below w.heap.size w u)) (fun _ t _ => m - (intOf t).toNat)
          case atStart => exact ⟨v, 1, rfl, rfl, Nat.le_refl _, h3, ⟨by show v = (aheadY j : Int) + ((0 : Nat) : Int) - 719162; have := hv.out.1; omega, hv.out.2⟩⟩
          case round =>
            obtain ⟨x, k, rfl, rfl, hk1, hk2, hx⟩ := hrel
            have hx1 := hx.out.1
            have hxb := aheadM_small j (k - 1)
            by_cases hk : k < m
            · have i2 : (k : Int) < (m : Int) := by omega
              obtain ⟨l, hl⟩ : ∃ l, lenM j k = l := ⟨_, rfl⟩
              have hlb := lenM_bounds j k
              have HX := show Hid (x + (l : Int) = (aheadY j : Int) + (aheadM j (k + 1 - 1) : Int) - 719162) from by
                show x + (l : Int) = (aheadY j : Int) + (aheadM j (k + 1 - 1) : Int) - 719162
                obtain ⟨i, rfl⟩ : ∃ i, k = i + 1 := ⟨k - 1, by omega⟩
                simp only [aheadM, Nat.add_sub_cancel, hl] at hx1 ⊢
                omega
              rw [hl] at hlb
              have wx : IntKind.i64.wrap (x + (l : Int)) = x + (l : Int) := by rw [IntKind.wrap_i64]; omega
              have wk : IntKind.i64.wrap ((k : Int) + 1) = ((k + 1 : Nat) : Int) := by rw [IntKind.wrap_i64]; omega
              have HBx := show Hid (Below w.heap.size w wr) from hx.out.2
              have hC := HLen.out wr j k hk1 (by omega)
              rw [hl] at hC
              clear hx hx1 hxb hlb hl
              go_wp2_with fail
              refine hC.mono ?_
              rintro e w2 ⟨rfl, b2⟩
              have HB2 := show Hid (Below w.heap.size w w2) from bl2 HBx.out b2
              clear hC b2 HBx
              go_wp2_with fail
              go_roundw
              case rel => exact ⟨x + (l : Int), k + 1, by first | rfl | go_num, by first | rfl | go_num, by omega, hk, ⟨HX.out, HB2.out⟩⟩
              case measure => simp [intOf]; omega
            · obtain rfl : k = m := by omega
              have i2 : ¬ (k : Int) < (k : Int) := by omega
              have HF := show Hid (x + (d : Int) - 1 = (dayN j k d : Int) - 719162) from by
                show x + (d : Int) - 1 = (dayN j k d : Int) - 719162
                rw [HD.out]
                omega
              have wx : IntKind.i64.wrap (x + (d : Int)) = x + (d : Int) := by rw [IntKind.wrap_i64]; omega
              have wx2 : IntKind.i64.wrap (x + (d : Int) - 1) = x + (d : Int) - 1 := by rw [IntKind.wrap_i64]; omega
              have HBx := show Hid (Below w.heap.size w wr) from hx.out.2
              clear hx hx1 hxb hs
              go_wp2_with fail
              go_ret
              exact ⟨congrArg (fun z => Ending.returned (Value.int .i64 z)) HF.out, HBx.out⟩
end Go.Proofs.YtbepjlhknmhmeaaDoor
