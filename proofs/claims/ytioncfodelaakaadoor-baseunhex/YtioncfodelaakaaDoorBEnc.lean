/-
  The document's Encode, for every list of bytes.
-/
import Derived.Test.YtioncfodelaakaaDoorBBit
namespace Go.Proofs.YtioncfodelaakaaDoor
open Go.RowKit Ch

set_option maxHeartbeats 2000000 in
theorem sEncode_any (a : Option Addr) (cap : Nat) (s : ByteArray) (w : World) (hs : s.size ≤ 100000) (hB : IsBytes w (.slice a s.size cap) s) :
    Calls Tryd.prog 11 #[.slice a s.size cap] w fun e w' => e = .returned (.string ⟨(encL s).toArray⟩) ∧ Below w.heap.size w w' := by
  obtain ⟨i0, hi, hz0, hz1, hz2⟩ := info5
  have HB : Hid (IsBytes w (.slice a s.size cap) s) := hB
  clear hB
  go_enter Tryd.func11, Tryd.ntmps11
  go_wp2
  go_loopw [3, 4] (fun v t wr => ∃ i k : Nat, Hid (i = 6 * k) ∧ k ≤ signCount s.size ∧ t = .int .i64 (i : Int) ∧ wr.ownsRow w.heap.size 5 1 v (signsL s k).length (Lib.byteCells (signsL s k)) ∧ Below w.heap.size w wr) (fun _ t _ => 800000 - (intOf t).toNat)
  case atStart => exact ⟨0, 0, rfl, Nat.zero_le _, rfl, World.ownsRow_nil _ _ _ _, Below.refl _ _⟩
  case round =>
    obtain ⟨i, k, hik, hk, rfl, hown, hb⟩ := hrel
    have hik' := hik.out
    obtain ⟨wo, rfl⟩ : ∃ wo : World, wo = wr := ⟨_, rfl⟩
    have hbz := hb.size
    by_cases hlt : k < signCount s.size
    · have hi8 : i < 8 * s.size := by unfold signCount at hlt; omega
      have e8 : decide ((i : Int) < 8 * (s.size : Int)) = true := decide_eq_true (by omega)
      clear hik'
      go_wp2_with fail
      go_loopw [5, 6] (fun n t wr => ∃ j g : Nat, j ≤ 6 ∧ t = .int .i64 (j : Int) ∧ n = .int .i64 (g : Int) ∧ Hid (g = bitsN s i j) ∧ g < 64 ∧ Below wo.heap.size wo wr) (fun _ t _ => 6 - (intOf t).toNat)
      case atStart => exact ⟨0, 0, by omega, rfl, rfl, rfl, by omega, Below.refl _ _⟩
      case round =>
        obtain ⟨j, g, hj, rfl, rfl, hg, hg64, hbi⟩ := hrel
        have hbiz := hbi.size
        by_cases hj6 : j < 6
        · have hbit := sBit_at a cap s i j wr (by omega) (by omega) (HB.out.later (hb.trans (hbi.mono hbz)))
          obtain ⟨x, hx⟩ : ∃ x, bitN s (i + j) = x := ⟨_, rfl⟩
          have hx2 := bitN_lt s (i + j)
          rw [hx] at hbit hx2
          have hg2 : Hid (g * 2 + x = bitsN s i (j + 1)) := by unfold Hid; rw [bitsN, ← hg.out, hx]
          have hgl : g * 2 + x < 64 := by
            rw [hg2.out]
            exact Nat.lt_of_lt_of_le (bitsN_lt s i (j + 1)) (Nat.pow_le_pow_right (n := 2) (j := 6) (by omega) (by omega))
          clear hx hg
          go_wp2_with fail
          refine hbit.mono ?_
          rintro e w1 ⟨rfl, hb1⟩
          go_wp2_with fail
          go_roundw
          case rel => exact ⟨j + 1, g * 2 + x, by omega, by go_num, by go_num, hg2, hgl, hbi.trans (hb1.mono hbiz)⟩
          case measure => simp [intOf]; omega
        · obtain rfl : j = 6 := by omega
          have hgg : Hid (grp s k = g) := by unfold Hid grp; rw [← hik.out, ← hg.out]
          have hS := sSign_any g wr hg64
          obtain ⟨c, hc⟩ : ∃ c, UInt8.ofNat (signN g) = c := ⟨_, rfl⟩
          have hcv : Hid ((signN g : Int) = (c.toNat : Int)) := by
            unfold Hid
            rw [← hc, UInt8.toNat_ofNat']
            have := signN_lt g
            omega
          have hL : Hid (signsL s k ++ [c] = signsL s (k + 1)) := by unfold Hid; rw [signsL_succ, hgg.out, hc]
          have hlen : (signsL s k).length ≤ 200000 := by rw [signsL_length]; unfold signCount at hlt; omega
          have hown1 := ownsRow_later hown hbi
          have hb2 : Below w.heap.size w wr := hb.trans (hbi.mono hbz)
          have hb2z := hb2.size
          clear hg hgg hown hc
          go_wp2_with (first | (go_at_call 25; refine hS.mono ?_; rintro e w' ⟨rfl, hw'⟩; rw [hw']; clear hw' w') | (at_builtin; refine wpList_append_own _ rfl _ _ 22 rfl w.heap.size 5 i0 (.int .u8 0) 1 1 Tryd.underlying22 hi hz0 hz1 hz2 rfl (by decide) _ _ _ rfl (hown1.alloc _) ⟨wr.heap.size, 0, none⟩ 1 1 [_] rfl rfl (cell_one_new _ _ _) (by intro u hu; simp at hu; subst hu; rfl) (by unfold maxLen; omega) (by omega) (by simp; omega) ?_))
          intro v' w2 hown2 hgrow _
          have hb3 : Below w.heap.size w w2 := below_grown hb2 hb2z hown1 hgrow
          rw [hcv.out] at hown2
          have hown3 := own_snoc (c := c) hown2
          rw [hL.out] at hown3
          clear hgrow hown2 hown1
          go_wp2_with fail
          go_roundw
          case rel => exact ⟨i + 6, k + 1, by unfold Hid; rw [hik.out]; omega, by omega, by go_num, hown3, hb3⟩
          case measure => simp [intOf]; omega
    · have hi8 : 8 * s.size ≤ i := by unfold signCount at hlt hk; omega
      obtain rfl : k = signCount s.size := by omega
      have e8 : decide ((i : Int) < 8 * (s.size : Int)) = false := decide_eq_false (by omega)
      clear hik' hik hlt
      obtain ⟨m, hm⟩ : ∃ m, signCount s.size = m := ⟨_, rfl⟩
      have hE : Hid (encL s = signsL s m ++ List.replicate ((4 - m % 4) % 4) 61) := by unfold Hid encL; rw [hm]
      have hm2 : m ≤ 140000 := by unfold signCount at hm; omega
      rw [hm] at hown
      clear hm hk
      go_wp2_with fail
      go_loopw [3] (fun v wr => ∃ p : Nat, p ≤ (4 - m % 4) % 4 ∧ wr.ownsRow w.heap.size 5 1 v (signsL s m ++ List.replicate p 61).length (Lib.byteCells (signsL s m ++ List.replicate p 61)) ∧ Below w.heap.size w wr) (fun v _ => 200000 - lenOf v)
      case atStart => exact ⟨0, Nat.zero_le _, by rw [List.replicate_zero, List.append_nil]; exact hown, hb⟩
      case round =>
        obtain ⟨p, hp, hown, hb⟩ := hrel
        have hl : (signsL s m ++ List.replicate p 61).length = m + p := by simp [signsL_length]
        obtain ⟨L, hL⟩ : ∃ L, signsL s m ++ List.replicate p 61 = L := ⟨_, rfl⟩
        rw [hL] at hown hl
        obtain ⟨a', cap', rfl⟩ := own_shape hown
        have hbz := hb.size
        by_cases hlt : p < (4 - m % 4) % 4
        · have e4 : ((L.length : Int) % 4 != 0) = true := by
            simp
            omega
          have hL2 : Hid (L ++ [61] = signsL s m ++ List.replicate (p + 1) 61) := by unfold Hid; rw [← hL, List.append_assoc, List.replicate_succ']
          have hlen : L.length ≤ 200000 := by omega
          have hmm : Hid (L.length = m + p) := hl
          clear hL hl
          go_wp2_with (at_builtin; refine wpList_append_own _ rfl _ _ 22 rfl w.heap.size 5 i0 (.int .u8 0) 1 1 Tryd.underlying22 hi hz0 hz1 hz2 rfl (by decide) _ _ _ rfl (hown.alloc _) ⟨wr.heap.size, 0, none⟩ 1 1 [_] rfl rfl (cell_one_new _ _ _) (by intro u hu; simp at hu; subst hu; rfl) (by unfold maxLen; omega) (by omega) (by simp; omega) ?_)
          intro v' w2 hown2 hgrow _
          have hb3 : Below w.heap.size w w2 := below_grown hb hbz hown hgrow
          have hown3 := own_snoc (c := 61) hown2
          rw [hL2.out] at hown3
          obtain ⟨a2, cap2, rfl⟩ := own_shape hown3
          clear hgrow hown2 hown
          go_wp2_with fail
          go_roundw
          case rel => exact ⟨p + 1, by omega, hown3, hb3⟩
          case measure => simp [lenOf, signsL_length]; have := hmm.out; omega
        · have e4 : ((L.length : Int) % 4 != 0) = false := by
            simp
            omega
          have hW : Hid (L = encL s) := by
            unfold Hid
            rw [hE.out, ← hL, show p = (4 - m % 4) % 4 by omega]
          have hcv := own_convert hown
          clear hown hL hl
          go_wp2
          go_ret
          rw [hW.out]
          exact ⟨rfl, hb⟩
end Go.Proofs.YtioncfodelaakaaDoor
