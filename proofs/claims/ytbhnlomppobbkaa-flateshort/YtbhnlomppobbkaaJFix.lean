/-
  The reference's lengths of the fixed codes.
-/
import Derived.Test.YtbhnlomppobbkaaJInt
namespace Go.Proofs.Ytbhnlomppobbkaa
open Go.RowKit Ch
set_option maxRecDepth 100000

theorem fixedL_take (s : Nat) (h : s < 288) : fixedL.take s ++ [(fixC s).2] = fixedL.take (s + 1) := by
  rw [List.take_add_one]
  congr 1
  unfold fixedL
  rw [List.getElem?_map, List.getElem?_range h]
  rfl
theorem fixedD_take (s : Nat) (h : s < 32) : fixedD.take s ++ [5] = fixedD.take (s + 1) := by
  rw [List.take_add_one]
  congr 1
  unfold fixedD
  rw [List.getElem?_replicate, if_pos h]
  rfl
set_option maxHeartbeats 2000000 in
theorem jFixed_any (w : World) : Calls Try.prog 23 #[] w fun e w' => (∃ v1 v2, e = .returned (.tuple #[v1, v2]) ∧ w'.ownsRow w.heap.size 3 1 v1 fixedL.length (intCells fixedL) ∧ w'.ownsRow w.heap.size 3 1 v2 fixedD.length (intCells fixedD)) ∧ Below w.heap.size w w' := by
  have hlL : fixedL.length = 288 := by decide
  have hlD : fixedD.length = 32 := by decide
  have hA := fixedL_take
  have hD := fixedD_take
  generalize fixedL = FL at *
  generalize fixedD = FD at *
  have HA : Hid (∀ s, s < 288 → FL.take s ++ [(fixC s).2] = FL.take (s + 1)) := hA
  have HD : Hid (∀ s, s < 32 → FD.take s ++ [5] = FD.take (s + 1)) := hD
  have HL : Hid (FL.length = 288 ∧ FD.length = 32) := ⟨hlL, hlD⟩
  clear hA hD hlL hlD
  go_enter Try.func23, Try.ntmps23
  go_wp2_with fail
  go_loopw [2, 4] (fun u t wr => ∃ (j : Nat) (L : List Nat), j ≤ 288 ∧ t = .int .i64 (j : Int) ∧ Hid (FL.take j = L) ∧ L.length ≤ 288 ∧ wr.ownsRow w.heap.size 3 1 u L.length (intCells L) ∧ Below w.heap.size w wr) (fun _ t _ => 288 - (intOf t).toNat)
  case atStart => exact ⟨0, [], Nat.zero_le _, rfl, rfl, by simp, World.ownsRow_nil _ _ _ _, Below.refl _ _⟩
  case round =>
    obtain ⟨j, L, hj, rfl, hL, hl, ho, hb⟩ := hrel
    have hbw := hb.size
    by_cases hlt : j < 288
    · have hlt2 : (j : Int) < 288 := by omega
      obtain ⟨L2, hL2⟩ : ∃ L2, L ++ [(fixC j).2] = L2 := ⟨_, rfl⟩
      have he : Hid (L ++ [(fixC j).2] = L2) := hL2
      have hT : Hid (FL.take (j + 1) = L2) := by unfold Hid; rw [← HA.out j hlt, hL.out, hL2]
      have hl2 : Hid (L2.length ≤ 288) := by unfold Hid; rw [← hT.out, List.length_take, HL.out.1]; omega
      clear hL2 hL
      by_cases h1 : j < 144
      · have k1 : (j : Int) < 144 := by omega
        have hc : Hid ((8 : Int) = ((fixC j).2 : Int)) := by unfold Hid fixC; rw [if_pos h1]; rfl
        go_wp2_with (at_builtin; go_must (refine wpList_append_int rfl _ _ rfl w.heap.size _ L rfl ho _ rfl _ hc L2 he (by omega) hbw hb ?_; intro v2 w2 ho2 hb2))
        go_roundw
        case rel => exact ⟨j + 1, L2, by omega, by go_num, hT, hl2.out, ho2, hb2⟩
        case measure => simp [intOf]; omega
      · have k1 : ¬ (j : Int) < 144 := by omega
        by_cases h2 : 280 ≤ j
        · have k2 : (280 : Int) ≤ (j : Int) := by omega
          have hc : Hid ((8 : Int) = ((fixC j).2 : Int)) := by unfold Hid fixC; rw [if_neg h1, if_neg (by omega), if_neg (by omega)]; rfl
          go_wp2_with (at_builtin; go_must (refine wpList_append_int rfl _ _ rfl w.heap.size _ L rfl ho _ rfl _ hc L2 he (by omega) hbw hb ?_; intro v2 w2 ho2 hb2))
          go_roundw
          case rel => exact ⟨j + 1, L2, by omega, by go_num, hT, hl2.out, ho2, hb2⟩
          case measure => simp [intOf]; omega
        · have k2 : ¬ (280 : Int) ≤ (j : Int) := by omega
          by_cases h3 : j < 256
          · have k3 : (j : Int) < 256 := by omega
            have hc : Hid ((9 : Int) = ((fixC j).2 : Int)) := by unfold Hid fixC; rw [if_neg h1, if_pos h3]; rfl
            go_wp2_with (at_builtin; go_must (refine wpList_append_int rfl _ _ rfl w.heap.size _ L rfl ho _ rfl _ hc L2 he (by omega) hbw hb ?_; intro v2 w2 ho2 hb2))
            go_roundw
            case rel => exact ⟨j + 1, L2, by omega, by go_num, hT, hl2.out, ho2, hb2⟩
            case measure => simp [intOf]; omega
          · have k3 : ¬ (j : Int) < 256 := by omega
            have hc : Hid ((7 : Int) = ((fixC j).2 : Int)) := by unfold Hid fixC; rw [if_neg h1, if_neg h3, if_pos (by omega)]; rfl
            go_wp2_with (at_builtin; go_must (refine wpList_append_int rfl _ _ rfl w.heap.size _ L rfl ho _ rfl _ hc L2 he (by omega) hbw hb ?_; intro v2 w2 ho2 hb2))
            go_roundw
            case rel => exact ⟨j + 1, L2, by omega, by go_num, hT, hl2.out, ho2, hb2⟩
            case measure => simp [intOf]; omega
    · have hlt2 : ¬ (j : Int) < 288 := by omega
      have hF : FL = L := by rw [← hL.out, List.take_of_length_le (by rw [HL.out.1]; omega)]
      have HF : Hid (FL = L) := hF
      clear hL hF
      obtain ⟨w5, hw5⟩ : ∃ w5, w5 = wr := ⟨_, rfl⟩
      subst hw5
      go_wp2_with fail
      go_loopw [3, 5] (fun u t w2 => ∃ (i : Nat) (M : List Nat), i ≤ 32 ∧ t = .int .i64 (i : Int) ∧ Hid (FD.take i = M) ∧ M.length ≤ 32 ∧ w2.ownsRow w5.heap.size 3 1 u M.length (intCells M) ∧ Below w5.heap.size w5 w2) (fun _ t _ => 32 - (intOf t).toNat)
      case atStart => exact ⟨0, [], Nat.zero_le _, rfl, rfl, by simp, World.ownsRow_nil _ _ _ _, Below.refl _ _⟩
      case round =>
        obtain ⟨i, M, hi, rfl, hM, hm, ho3, hb3⟩ := hrel
        have hbw3 := hb3.size
        by_cases hlt3 : i < 32
        · have hlt4 : (i : Int) < 32 := by omega
          obtain ⟨L2, hL2⟩ : ∃ L2, M ++ [5] = L2 := ⟨_, rfl⟩
          have he : Hid (M ++ [5] = L2) := hL2
          have hT : Hid (FD.take (i + 1) = L2) := by unfold Hid; rw [← HD.out i hlt3, hM.out, hL2]
          have hl2 : Hid (L2.length ≤ 32) := by unfold Hid; rw [← hT.out, List.length_take, HL.out.2]; omega
          have hc : Hid ((5 : Int) = ((5 : Nat) : Int)) := rfl
          clear hL2 hM
          go_wp2_with (at_builtin; go_must (refine wpList_append_int rfl _ _ rfl w5.heap.size _ M rfl ho3 _ rfl _ hc L2 he (by omega) hbw3 hb3 ?_; intro v2 w2 ho2 hb2))
          go_roundw
          case rel => exact ⟨i + 1, L2, by omega, by go_num, hT, hl2.out, ho2, hb2⟩
          case measure => simp [intOf]; omega
        · have hlt4 : ¬ (i : Int) < 32 := by omega
          have HG : Hid (FD = M) := by unfold Hid; rw [← hM.out, List.take_of_length_le (by rw [HL.out.2]; omega)]
          clear hM
          go_wp2_with fail
          go_ret2
          rw [HF.out, HG.out]
          exact ⟨⟨_, _, rfl, ownsRow_later ho hb3, own_mono ho3 hbw⟩, hb.trans (hb3.mono hbw)⟩
end Go.Proofs.Ytbhnlomppobbkaa
