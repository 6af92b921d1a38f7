/-
  The reference's Deflate, walked.
-/
import Derived.Test.YtbhnlomppobbkaaJDefl
namespace Go.Proofs.Ytbhnlomppobbkaa
open Go.RowKit Ch
set_option maxRecDepth 100000

theorem natBits_head : natBits [true, true, false] = [1, 1, 0] := rfl
set_option maxHeartbeats 8000000 in
theorem jDeflate_any (x : Option Addr) (cap : Nat) (s : ByteArray) (w : World) (hs : s.size ≤ 1000) (hB : IsBytes w (.slice x s.size cap) s) :
    Calls Try.prog 12 #[.slice x s.size cap] w fun e w' => (∃ v', e = .returned v' ∧ w'.ownsRow w.heap.size 5 1 v' (deflL s).length (Lib.byteCells (deflL s))) ∧ Below w.heap.size w w' := by
  have hcA := fun w v (h : IsInts w v fixedL) => jCodes_any v fixedL w h (by decide) fixed_le
  have hcD := fun w v (h : IsInts w v fixedD) => jCodes_any v fixedD w h (by decide) far_le
  rw [show fixedL.length = 288 by decide] at hcA
  rw [show fixedD.length = 32 by decide] at hcD
  go_enter Try.func12, Try.ntmps12
  go_wp2_with fail
  refine (jFixed_any w).mono ?_
  rintro e w1 ⟨⟨v1, v2, rfl, ho1, ho2⟩, hb1⟩
  go_wp2_with fail
  refine (hcA w1 v1 (own_ints ho1)).mono ?_
  rintro e w2 ⟨rfl, hC1, hb2⟩
  go_wp2_with fail
  refine (hcD w2 v2 ((own_ints ho2).later hb2)).mono ?_
  rintro e w3 ⟨rfl, hC2, hb3⟩
  clear ho1 ho2 hcA hcD
  have hs2 := hb2.size
  have hs3 := hb3.size
  obtain ⟨k1, hk1⟩ : ∃ k, w1.heap.size = k := ⟨_, rfl⟩
  obtain ⟨k2, hk2⟩ : ∃ k, w2.heap.size = k := ⟨_, rfl⟩
  have hlt1 : k1 < w2.heap.size := by obtain ⟨C, h1, _⟩ := hC1.ex; rw [← hk1]; exact block_lt h1
  have hlt2 : k2 < w3.heap.size := by obtain ⟨C, h1, _⟩ := hC2.ex; rw [← hk2]; exact block_lt h1
  have hC1' : CodesIn k1 288 (codeOf fixedL) w3 := by rw [← hk1]; exact hC1.later hb3 (by rw [hk1]; exact hlt1)
  have hC2' : CodesIn k2 32 (codeOf fixedD) w3 := by rw [← hk2]; exact hC2
  have hIB3 := ((hB.later hb1).later hb2).later hb3
  have hbw3 : Below w.heap.size w w3 := hb1.trans ((hb2.trans (hb3.mono hs2)).mono hb1.size)
  have HX : Hid (CodesIn k1 288 (codeOf fixedL) w3 ∧ CodesIn k2 32 (codeOf fixedD) w3 ∧ IsBytes w3 (.slice x s.size cap) s ∧ Below w.heap.size w w3 ∧ k1 < w3.heap.size ∧ k2 < w3.heap.size) := ⟨hC1', hC2', hIB3, hbw3, by omega, hlt2⟩
  rw [hk1, hk2]
  clear hC1 hC2 hC1' hC2' hIB3 hbw3 hlt1 hlt2 hb1 hb2 hb3 hs2 hs3 hB hk1 hk2
  go_wp2_with fail
  have hlist : (w3.alloc (.cells #[.int .i64 1, .int .i64 1, .int .i64 0] 3)).ownsRow w3.heap.size 3 1 (.slice (some ⟨w3.heap.size, 0, none⟩) 3 3) [1, 1, 0].length (intCells [1, 1, 0]) :=
    ⟨by simp [intCells], .inr ⟨w3.heap.size, 3, #[.int .i64 1, .int .i64 1, .int .i64 0], rfl, Nat.le_refl _, heap_push_at _ _, by simp, by unfold maxLen; omega, by simp, by simp [intCells]⟩⟩
  have hbl : Below w3.heap.size w3 (w3.alloc (.cells #[.int .i64 1, .int .i64 1, .int .i64 0] 3)) := (Below.refl _ w3).alloc (Nat.le_refl _) _
  generalize w3.alloc (.cells #[.int .i64 1, .int .i64 1, .int .i64 0] 3) = W4 at *
  go_loopw [7, 8] (fun u t wr => ∃ (i : Nat) (bs : List Bool) (L : List Nat), i ≤ s.size ∧ t = .int .i64 (i : Int) ∧ Hid (natBits bs = L ∧ bs ++ deflB (byte s) s.size i = deflBits s) ∧ L.length ≤ 3 + 60 * i ∧ wr.ownsRow w3.heap.size 3 1 u L.length (intCells L) ∧ Below w3.heap.size w3 wr) (fun _ t _ => s.size - (intOf t).toNat)
  case atStart => exact ⟨0, [true, true, false], [1, 1, 0], Nat.zero_le _, rfl, ⟨rfl, rfl⟩, by simp, hlist, hbl⟩
  case round =>
    obtain ⟨i, bs, L, hi, rfl, hL, hll, ho, hb⟩ := hrel
    clear hlist hbl
    by_cases hlt : i < s.size
    · have hlt2 : (i : Int) < (s.size : Int) := by omega
      obtain ⟨w5, hw5⟩ : ∃ w5, w5 = wr := ⟨_, rfl⟩
      subst hw5
      obtain ⟨hX1, hX2, hX3, hX4, hX5, hX6⟩ := HX.out
      have hIB5 := hX3.later hb
      have HO5 : Hid (w5.ownsRow w3.heap.size 3 1 u7 L.length (intCells L)) := ho
      obtain ⟨b, o, rfl, hbl5, hF⟩ : ∃ b o, x = some ⟨b, o, none⟩ ∧ b < w5.heap.size ∧ ∀ j, j < s.size → w5.cell? ⟨b, o + j, none⟩ = some (.int .u8 (byte s j : Int)) := by
        obtain ⟨b, o, h1, h2, h3⟩ := hIB5.cellAt hlt
        refine ⟨b, o, h1, h2, fun j hj => ?_⟩
        obtain ⟨b', o', h1', h2', h3'⟩ := hIB5.cellAt hj
        rw [h1] at h1'
        simp only [Option.some.injEq, Addr.mk.injEq, and_true] at h1'
        rw [h1'.1, h1'.2]
        exact h3'
      have HF : Hid (∀ j, j < s.size → w5.cell? ⟨b, o + j, none⟩ = some (.int .u8 (byte s j : Int))) := hF
      obtain ⟨most, hmost⟩ : ∃ most, min 258 (s.size - i) = most := ⟨_, rfl⟩
      have HM0 : Hid (min 258 (s.size - i) = most) := hmost
      have hm258 : most ≤ 258 := by omega
      have hmn : i + most ≤ s.size := by omega
      clear hX1 hX2 hX3 hX4 hX5 hX6 hIB5 hF ho hmost
      go_wp2_with fail
      go_loopw [9, 10, 11] (fun t1 t2 t3 wr => ∃ (k B1 B2 : Nat), k ≤ min 512 i ∧ t3 = .int .i64 ((k + 1 : Nat) : Int) ∧ t1 = .int .i64 (B1 : Int) ∧ t2 = .int .i64 (B2 : Int) ∧ Hid ((best (byte s) i most k).1 = B1) ∧ Hid ((best (byte s) i most k).2 = B2) ∧ B1 ≤ 258 ∧ B2 ≤ 512 ∧ Below w5.heap.size w5 wr) (fun _ _ t _ => 513 - (intOf t).toNat)
      case atStart => exact ⟨0, 0, 0, Nat.zero_le _, rfl, rfl, rfl, rfl, rfl, by omega, by omega, Below.refl _ _⟩
      case round =>
        obtain ⟨k, B1, B2, hk, rfl, rfl, rfl, HB1, HB2, hB1, hB2, hb6⟩ := hrel
        by_cases hd : k + 1 ≤ 512 ∧ k + 1 ≤ i
        · obtain ⟨hd1, hd2⟩ := hd
          have hd3 : ((k + 1 : Nat) : Int) ≤ 512 := by omega
          have hd4 : ((k + 1 : Nat) : Int) ≤ (i : Int) := by omega
          obtain ⟨d, hd5⟩ : ∃ d, k + 1 = d := ⟨_, rfl⟩
          rw [hd5] at hd3 hd4
          have HD : Hid (k + 1 = d) := hd5
          rw [hd5]
          clear hd5
          go_wp2_with fail
          go_loopw [12] (fun t wr => ∃ m : Nat, m ≤ most ∧ t = .int .i64 (m : Int) ∧ Hid (ml (byte s) i (k + 1) m = m) ∧ Below w5.heap.size w5 wr) (fun t _ => most - (intOf t).toNat)
          case atStart => exact ⟨0, Nat.zero_le _, rfl, rfl, hb6⟩
          case round =>
            obtain ⟨m, hm, rfl, hml, hb7⟩ := hrel
            have hd6 : d ≤ i := by omega
            by_cases hmm : m < most
            · obtain ⟨j1, hj1⟩ : ∃ j1, i + m = j1 := ⟨_, rfl⟩
              obtain ⟨j2, hj2⟩ : ∃ j2, i + m - d = j2 := ⟨_, rfl⟩
              have ej1 : (i : Int) + (m : Int) = (j1 : Int) := by omega
              have ej2 : (j1 : Int) - (d : Int) = (j2 : Int) := by omega
              have q0 : (m : Int) < 258 := by omega
              have q1 : (j1 : Int) < (s.size : Int) := by omega
              have q2 : (j2 : Int) < (s.size : Int) := by omega
              have g1 := (hb7.cell (p := ⟨b, o + j1, none⟩) hbl5).trans (HF.out j1 (by omega))
              have g2 := (hb7.cell (p := ⟨b, o + j2, none⟩) hbl5).trans (HF.out j2 (by omega))
              have HJ : Hid (i + m = j1 ∧ i + m - d = j2) := ⟨hj1, hj2⟩
              have hj1l : j1 ≤ 1000 := by omega
              have hj2l : j2 ≤ 1000 := by omega
              have hm2 : m ≤ 258 := by omega
              generalize hy1 : byte s j1 = y1 at g1
              generalize hy2 : byte s j2 = y2 at g2
              by_cases hxy : y1 = y2
              · have hxy2 : ((y1 : Int) == (y2 : Int)) = true := by simp [hxy]
                have hml2 : Hid (ml (byte s) i (k + 1) (m + 1) = m + 1) := ml_step _ _ _ _ hml.out (by rw [HD.out, HJ.out.1, show j1 - d = j2 by have := HJ.out; omega, hy1, hy2, hxy])
                clear hy1 hy2 hxy hml hj1 hj2
                go_wp2_with fail
                go_quiet (fail)
                go_wp2_with fail
                go_roundw
                case rel => exact ⟨m + 1, by omega, by go_num, hml2, below_drewN hb7 nq⟩
                case measure => simp [intOf]; omega
              · have hxy2 : ((y1 : Int) == (y2 : Int)) = false := by simp; omega
                have hM : Hid (ml (byte s) i (k + 1) most = m) := ml_stop _ _ _ _ hml.out (by rw [HD.out, HJ.out.1, show j1 - d = j2 by have := HJ.out; omega, hy1, hy2]; exact hxy) most hm
                clear hy1 hy2 hxy hj1 hj2
                have hdk : (d : Int) + 1 = ((k + 1 + 1 : Nat) : Int) := by have := HD.out; omega
                have hdl : d ≤ 512 := by omega
                by_cases hgt : B1 < m
                · have hbest : Hid (best (byte s) i most (k + 1) = (m, k + 1)) := by unfold Hid; rw [best, hM.out, HB1.out, if_pos hgt]
                  have hgt2 : (B1 : Int) < (m : Int) := by omega
                  clear hml
                  go_wp2_with fail
                  go_quiet (fail)
                  go_wp2_with fail
                  go_roundw
                  case rel => exact ⟨k + 1, m, k + 1, by omega, by go_num, rfl, by go_num, by unfold Hid; rw [hbest.out], by unfold Hid; rw [hbest.out], by omega, by omega, below_drewN hb7 nq⟩
                  case measure => simp [intOf]; omega
                · have hbest : Hid (best (byte s) i most (k + 1) = best (byte s) i most k) := by unfold Hid; rw [best, hM.out, HB1.out, if_neg hgt]
                  have hgt2 : ¬ (B1 : Int) < (m : Int) := by omega
                  clear hml
                  go_wp2_with fail
                  go_quiet (fail)
                  go_wp2_with fail
                  go_roundw
                  case rel => exact ⟨k + 1, B1, B2, by omega, by go_num, rfl, rfl, by unfold Hid; rw [hbest.out]; exact HB1.out, by unfold Hid; rw [hbest.out]; exact HB2.out, by omega, by omega, below_drewN hb7 nq⟩
                  case measure => simp [intOf]; omega

            · obtain rfl : m = most := by omega
              have hM : Hid (ml (byte s) i (k + 1) m = m) := hml
              have hdk : (d : Int) + 1 = ((k + 1 + 1 : Nat) : Int) := by have := HD.out; omega
              have hdl : d ≤ 512 := by omega
              by_cases h258 : m = 258
              · have q0 : ¬ (m : Int) < 258 := by omega
                have q0' : decide ((m : Int) < 258) = false := decide_eq_false q0
                clear h258
                by_cases hgt : B1 < m
                · have hbest : Hid (best (byte s) i m (k + 1) = (m, k + 1)) := by unfold Hid; rw [best, hM.out, HB1.out, if_pos hgt]
                  have hgt2 : (B1 : Int) < (m : Int) := by omega
                  clear hml
                  go_wp2_with fail
                  go_quiet (fail)
                  go_wp2_with fail
                  go_roundw
                  case rel => exact ⟨k + 1, m, k + 1, by omega, by go_num, rfl, by go_num, by unfold Hid; rw [hbest.out], by unfold Hid; rw [hbest.out], by omega, by omega, below_drewN hb7 nq⟩
                  case measure => simp [intOf]; omega
                · have hbest : Hid (best (byte s) i m (k + 1) = best (byte s) i m k) := by unfold Hid; rw [best, hM.out, HB1.out, if_neg hgt]
                  have hgt2 : ¬ (B1 : Int) < (m : Int) := by omega
                  clear hml
                  go_wp2_with fail
                  go_quiet (fail)
                  go_wp2_with fail
                  go_roundw
                  case rel => exact ⟨k + 1, B1, B2, by omega, by go_num, rfl, rfl, by unfold Hid; rw [hbest.out]; exact HB1.out, by unfold Hid; rw [hbest.out]; exact HB2.out, by omega, by omega, below_drewN hb7 nq⟩
                  case measure => simp [intOf]; omega

              · have q0 : (m : Int) < 258 := by omega
                have q1 : ¬ (i : Int) + (m : Int) < (s.size : Int) := by have := HM0.out; omega
                have q1' : decide ((i : Int) + (m : Int) < (s.size : Int)) = false := decide_eq_false q1
                by_cases hgt : B1 < m
                · have hbest : Hid (best (byte s) i m (k + 1) = (m, k + 1)) := by unfold Hid; rw [best, hM.out, HB1.out, if_pos hgt]
                  have hgt2 : (B1 : Int) < (m : Int) := by omega
                  clear hml
                  go_wp2_with fail
                  go_quiet (fail)
                  go_wp2_with fail
                  go_roundw
                  case rel => exact ⟨k + 1, m, k + 1, by omega, by go_num, rfl, by go_num, by unfold Hid; rw [hbest.out], by unfold Hid; rw [hbest.out], by omega, by omega, below_drewN hb7 nq⟩
                  case measure => simp [intOf]; omega
                · have hbest : Hid (best (byte s) i m (k + 1) = best (byte s) i m k) := by unfold Hid; rw [best, hM.out, HB1.out, if_neg hgt]
                  have hgt2 : ¬ (B1 : Int) < (m : Int) := by omega
                  clear hml
                  go_wp2_with fail
                  go_quiet (fail)
                  go_wp2_with fail
                  go_roundw
                  case rel => exact ⟨k + 1, B1, B2, by omega, by go_num, rfl, rfl, by unfold Hid; rw [hbest.out]; exact HB1.out, by unfold Hid; rw [hbest.out]; exact HB2.out, by omega, by omega, below_drewN hb7 nq⟩
                  case measure => simp [intOf]; omega

        · have hkk : k = min 512 i := by omega
          have HCP : Hid (copyAt (byte s) s.size i = (B1, B2)) := by
            unfold Hid copyAt
            rw [HM0.out, ← hkk, ← HB1.out, ← HB2.out]
          have hcl := copyAt_le (byte s) s.size i
          rw [HCP.out] at hcl
          simp only at hcl
          obtain ⟨d0, hd0⟩ : ∃ d0, k + 1 = d0 := ⟨_, rfl⟩
          rw [hd0]
          obtain ⟨w6, hw6⟩ : ∃ w6, w6 = wr := ⟨_, rfl⟩
          subst hw6
          have HCL : Hid (B1 ≤ s.size - i) := hcl.2.1
          have hB2p : B1 > 0 → 0 < B2 := hcl.2.2.2.2
          have hbA : Below w3.heap.size w3 w6 := hb.trans (hb6.mono hb.size)
          have hs6 : w3.heap.size ≤ w6.heap.size := hbA.size
          have HO6 : Hid (w6.ownsRow w3.heap.size 3 1 u7 L.length (intCells L)) := ownsRow_later HO5.out hb6
          have hcase : (d0 : Int) ≤ 512 ∧ ¬ (d0 : Int) ≤ (i : Int) ∨ ¬ (d0 : Int) ≤ 512 := by omega
          have g1 := (hb6.cell (p := ⟨b, o + i, none⟩) hbl5).trans (HF.out i hlt)
          have hcond : ∃ z1 z2 : Bool, decide ((d0 : Int) ≤ 512) = z1 ∧ decide ((d0 : Int) ≤ (i : Int)) = z2 ∧ (z1 && z2) = false := ⟨_, _, rfl, rfl, by simp; omega⟩
          clear hcl hd hkk hd0 hb6
          rcases hcase with ⟨h512, hdi⟩ | h512
          all_goals
            by_cases h3 : B1 < 3
            · have h3' : (B1 : Int) < 3 := by omega
              have hby := byte_lt s i
              have HBY : Hid (byte s i = byte s i) := rfl
              obtain ⟨y, hy⟩ : ∃ y, byte s i = y := ⟨_, rfl⟩
              rw [hy] at g1 hby
              have hC8 := (HX.out.1).later hbA HX.out.2.2.2.2.1
              obtain ⟨z0, z1, _, _⟩ := hC8.at (t := y) (by omega)
              rw [codeOf_fixed y (by omega)] at z0 z1
              have hfc := (fix_fin ⟨y, by omega⟩).2
              have hfw := fixC_wide y
              simp only at hfc
              have hfc2 : (fixC y).1 ≤ 1000 := by
                have : 2 ^ (fixC y).2 ≤ 2 ^ 9 := Nat.pow_le_pow_right (by omega) hfw.2
                omega
              have hW1 := jWord_any w3.heap.size _ L (fixC y).1 (fixC y).2 w6 HO6.out hs6 (by omega) (by omega) (by omega)
              obtain ⟨f1, hf1⟩ : ∃ f1, (fixC y).1 = f1 := ⟨_, rfl⟩
              obtain ⟨f2, hf2⟩ : ∃ f2, (fixC y).2 = f2 := ⟨_, rfl⟩
              have HSB : Hid (codeBits f1 f2 = signBits y ∧ f2 ≤ 9) := ⟨by rw [← hf1, ← hf2]; rfl, by omega⟩
              rw [hf1, hf2] at hW1
              rw [hf1] at z0
              rw [hf2] at z1
              have HY : Hid (byte s i = y) := hy
              have hyl : (y : Int) < 288 := by omega
              clear hf1 hf2 hfc hfw hfc2 hC8 hy
              go_wp2_with fail
              refine hW1.mono ?_
              rintro e wA ⟨⟨vA, LA, rfl, hLA, hoA⟩, hbA1⟩
              have hlA : LA.length ≤ L.length + 9 := by rw [← hLA.out, List.length_append, natBits_length, codeBits_length]; have := HSB.out.2; omega
              have hend : Hid (natBits (bs ++ signBits y) = LA ∧ bs ++ signBits y ++ deflB (byte s) s.size (i + 1) = deflBits s) := by
                refine ⟨?_, ?_⟩
                · rw [← hLA.out, HSB.out.1, natBits_append, hL.out.1]
                · rw [← hL.out.2, deflB_unfold (byte s) s.size i, if_pos hlt, HCP.out, if_pos (by simp only; omega), HY.out]
                  simp only [List.append_assoc]
              clear hW1 hL hLA z0 z1
              go_wp2_with fail
              go_roundw
              case rel => exact ⟨i + 1, _, LA, by omega, by go_num, hend, by omega, hoA, hbA.trans hbA1⟩
              case measure => simp [intOf]; omega
            · have h3' : ¬ (B1 : Int) < 3 := by omega
              have hB2q := hB2p (by omega)
              clear g1
              go_wp2_with fail
              go_loopw [13] (fun t wr => ∃ q : Nat, q ≤ 28 ∧ t = .int .i64 ((257 + q : Nat) : Int) ∧ Hid ((leastN q).1 ≤ B1) ∧ Below w6.heap.size w6 wr) (fun t _ => 285 - (intOf t).toNat)
              case atStart =>
                have h0 : (leastN 0).1 = 3 := by decide
                exact ⟨0, by omega, rfl, by unfold Hid; omega, Below.refl _ _⟩
              case round =>
                obtain ⟨q, hq, rfl, hq1, hb7⟩ := hrel
                by_cases hq28 : q < 28
                · have hq2 : ((257 + q : Nat) : Int) < 285 := by omega
                  have hle := jLeast_any (q + 1) wr (by omega)
                  obtain ⟨p1, hp1⟩ : ∃ p1, (leastN (q + 1)).1 = p1 := ⟨_, rfl⟩
                  obtain ⟨p2, hp2⟩ : ∃ p2, (leastN (q + 1)).2 = p2 := ⟨_, rfl⟩
                  rw [hp1, hp2, show ((257 + (q + 1) : Nat) : Int) = 257 + (q : Int) + 1 by omega] at hle
                  have HP1 : Hid ((leastN (q + 1)).1 = p1) := hp1
                  rw [show ((257 + q : Nat) : Int) = 257 + (q : Int) by omega]
                  clear hp1 hp2
                  by_cases hgt : B1 < p1
                  · have hgt2 : (B1 : Int) < (p1 : Int) := by omega
                    have HQ : Hid (q = lenSign B1) := lenSign_of (by omega) (by omega) hq hq1.out (fun _ => by rw [HP1.out]; exact hgt)
                    go_wp2_with fail
                    refine hle.mono ?_
                    rintro e wr ⟨rfl, hb8'⟩
                    have hb7 := hb7.trans (hb8'.mono hb7.size)
                    clear hle hb8'
                    go_wp2_with fail
                    refine (jLeast_any q wr (by omega)).mono ?_
                    rintro e w8 ⟨rfl, hb8⟩
                    have hb9 : Below w6.heap.size w6 w8 := hb7.trans (hb8.mono hb7.size)
                    have hbB : Below w3.heap.size w3 w8 := hbA.trans (hb9.mono hs6)
                    have hs8 := Nat.le_trans hs6 hb9.size
                    have ho8 := ownsRow_later HO6.out hb9
                    obtain ⟨n1, hn1⟩ : ∃ n1, (leastN q).1 = n1 := ⟨_, rfl⟩
                    obtain ⟨m1, hm1⟩ : ∃ m1, (leastN q).2 = m1 := ⟨_, rfl⟩
                    have hm1l : m1 ≤ 5 := by rw [← hm1]; exact (least_small ⟨q, by omega⟩).2
                    have hn1l : n1 ≤ B1 := by rw [← hn1, HQ.out]; exact (lenSign_is (by omega) (by omega)).2.1
                    rw [hn1, hm1]
                    obtain ⟨sg, hsg⟩ : ∃ sg, 257 + q = sg := ⟨_, rfl⟩
                    have hC8 := (HX.out.1).later hbB HX.out.2.2.2.2.1
                    obtain ⟨z0, z1, _, _⟩ := hC8.at (t := sg) (by omega)
                    rw [codeOf_fixed sg (by omega)] at z0 z1
                    have hfc := (fix_fin ⟨sg, by omega⟩).2
                    have hfw := fixC_wide sg
                    simp only at hfc
                    have hfc2 : (fixC sg).1 ≤ 1000 := by
                      have : 2 ^ (fixC sg).2 ≤ 2 ^ 9 := Nat.pow_le_pow_right (by omega) hfw.2
                      omega
                    have hW1 := jWord_any w3.heap.size _ L (fixC sg).1 (fixC sg).2 w8 ho8 hs8 (by omega) (by omega) (by omega)
                    obtain ⟨f1, hf1⟩ : ∃ f1, (fixC sg).1 = f1 := ⟨_, rfl⟩
                    obtain ⟨f2, hf2⟩ : ∃ f2, (fixC sg).2 = f2 := ⟨_, rfl⟩
                    have HSB : Hid (codeBits f1 f2 = signBits sg ∧ f2 ≤ 9) := ⟨by rw [← hf1, ← hf2]; rfl, by omega⟩
                    rw [hf1, hf2] at hW1
                    rw [hf1] at z0
                    rw [hf2] at z1
                    have esg : (257 : Int) + (q : Int) = (sg : Int) := by omega
                    have HSG : Hid (257 + q = sg) := hsg
                    have HN1 : Hid ((leastN q).1 = n1 ∧ (leastN q).2 = m1) := ⟨hn1, hm1⟩
                    have hsgl : (sg : Int) < 288 := by omega
                    clear hn1 hm1 hf1 hf2 hfc hfw hfc2 hsg hC8 ho8 hb8
                    go_wp2_with fail
                    refine hW1.mono ?_
                    rintro e wA ⟨⟨vA, LA, rfl, hLA, hoA⟩, hbA1⟩
                    have hbC : Below w3.heap.size w3 wA := hbB.trans hbA1
                    have hsA := Nat.le_trans hs8 hbA1.size
                    have hlA : LA.length ≤ L.length + 9 := by rw [← hLA.out, List.length_append, natBits_length, codeBits_length]; have := HSB.out.2; omega
                    have hNu := jNum_any w3.heap.size _ LA (B1 - n1) m1 wA hoA hsA (by omega) (by omega) (by omega)
                    obtain ⟨e1, he1⟩ : ∃ e1, B1 - n1 = e1 := ⟨_, rfl⟩
                    have ee1 : (B1 : Int) - (n1 : Int) = (e1 : Int) := by omega
                    have HE1 : Hid (B1 - n1 = e1) := he1
                    rw [he1] at hNu
                    clear he1 hW1 z0 z1 hoA
                    go_wp2_with fail
                    refine hNu.mono ?_
                    rintro e wB ⟨⟨vB, LB, rfl, hLB, hoB⟩, hbB1⟩
                    have hbD : Below w3.heap.size w3 wB := hbC.trans hbB1
                    have hsB := Nat.le_trans hsA hbB1.size
                    have hlB : LB.length ≤ L.length + 14 := by rw [← hLB.out, List.length_append, natBits_length, numBits_length]; omega
                    have HOB : Hid (wB.ownsRow w3.heap.size 3 1 vB LB.length (intCells LB)) := hoB
                    clear hNu hoB hb7 hb9
                    go_wp2_with fail
                    go_loopw [18] (fun t wr => ∃ r : Nat, r ≤ 28 ∧ t = .int .i64 (r : Int) ∧ Hid ((farN r).1 ≤ B2) ∧ Below wB.heap.size wB wr) (fun t _ => 29 - (intOf t).toNat)
                    case atStart =>
                      have h0 : (farN 0).1 = 1 := by decide
                      exact ⟨0, by omega, rfl, by unfold Hid; omega, Below.refl _ _⟩
                    case round =>
                      obtain ⟨r, hr, rfl, hr1, hbE⟩ := hrel
                      have hr29 : (r : Int) < 29 := by omega
                      have hfa := jFar_any (r + 1) wr (by omega)
                      obtain ⟨p1, hp1⟩ : ∃ p1, (farN (r + 1)).1 = p1 := ⟨_, rfl⟩
                      obtain ⟨p2, hp2⟩ : ∃ p2, (farN (r + 1)).2 = p2 := ⟨_, rfl⟩
                      rw [hp1, hp2, show ((r + 1 : Nat) : Int) = (r : Int) + 1 by omega] at hfa
                      have HP1 : Hid ((farN (r + 1)).1 = p1) := hp1
                      clear hp1 hp2
                      by_cases hgt : B2 < p1
                      · have hgt2 : (B2 : Int) < (p1 : Int) := by omega
                        have hrs : Hid (r = stepOf (B2 - 1) 2) := stepOf_far (by omega) hr1.out (by omega) (by rw [HP1.out]; exact hgt)
                        go_wp2_with fail
                        refine hfa.mono ?_
                        rintro e wE ⟨rfl, hbE2⟩
                        have hbF : Below wB.heap.size wB wE := hbE.trans (hbE2.mono hbE.size)
                        have hfb := jFar_any r wE (by omega)
                        obtain ⟨p3, hp3⟩ : ∃ p3, (farN r).1 = p3 := ⟨_, rfl⟩
                        obtain ⟨p4, hp4⟩ : ∃ p4, (farN r).2 = p4 := ⟨_, rfl⟩
                        have hp3l : p3 ≤ B2 := by rw [← hp3]; exact hr1.out
                        have hr18 : r < 18 := by rw [hrs.out]; exact step_lt2 (by omega)
                        have hp4l : p4 ≤ 7 := by rw [← hp4]; exact (far_fin2 ⟨r, hr18⟩).1
                        have HP3 : Hid ((farN r).1 = p3 ∧ (farN r).2 = p4) := ⟨hp3, hp4⟩
                        rw [hp3, hp4] at hfb
                        clear hfa hp3 hp4 hr1 HP1
                        go_wp2_with fail
                        refine hfb.mono ?_
                        rintro e wF ⟨rfl, hbF2⟩
                        have hbG : Below wB.heap.size wB wF := hbF.trans (hbF2.mono hbF.size)
                        have hbH : Below w3.heap.size w3 wF := hbD.trans (hbG.mono hsB)
                        have hsF := Nat.le_trans hsB hbG.size
                        have hoF := ownsRow_later HOB.out hbG
                        have hC9 := (HX.out.2.1).later hbH HX.out.2.2.2.2.2
                        obtain ⟨z0, z1, _, _⟩ := hC9.at (t := r) (by omega)
                        rw [codeOf_far r (by omega)] at z0 z1
                        simp only at z0 z1
                        have hW2 := jWord_any w3.heap.size _ LB r 5 wF hoF hsF (by omega) (by omega) (by omega)
                        have hr32 : (r : Int) < 32 := by omega
                        have e5 : ((5 : Nat) : Int) = 5 := rfl
                        rw [e5] at hW2 z1
                        clear hfb hC9 hoF
                        go_wp2_with fail
                        refine hW2.mono ?_
                        rintro e wG ⟨⟨vG, LG, rfl, hLG, hoG⟩, hbG1⟩
                        have hbI : Below w3.heap.size w3 wG := hbH.trans hbG1
                        have hsG := Nat.le_trans hsF hbG1.size
                        have hlG : LG.length ≤ L.length + 19 := by rw [← hLG.out, List.length_append, natBits_length, codeBits_length]; omega
                        have hNv := jNum_any w3.heap.size _ LG (B2 - p3) p4 wG hoG hsG (by omega) (by omega) (by omega)
                        obtain ⟨e2, he2⟩ : ∃ e2, B2 - p3 = e2 := ⟨_, rfl⟩
                        have ee2 : (B2 : Int) - (p3 : Int) = (e2 : Int) := by omega
                        have HE2 : Hid (B2 - p3 = e2) := he2
                        rw [he2] at hNv
                        clear he2 hW2 z0 z1 hoG
                        go_wp2_with fail
                        refine hNv.mono ?_
                        rintro e wH ⟨⟨vH, LH, rfl, hLH, hoH⟩, hbH1⟩
                        have hlH : LH.length ≤ L.length + 26 := by rw [← hLH.out, List.length_append, natBits_length, numBits_length]; omega
                        have hend : Hid (natBits (bs ++ (lenBits B1 ++ farBits B2)) = LH ∧ bs ++ (lenBits B1 ++ farBits B2) ++ deflB (byte s) s.size (i + B1) = deflBits s) := by
                          refine ⟨?_, ?_⟩
                          · rw [← hLH.out, ← hLG.out, ← hLB.out, ← hLA.out, ← HE1.out, ← HE2.out, HSB.out.1, ← HSG.out, ← HN1.out.1, ← HN1.out.2, ← HP3.out.1, ← HP3.out.2, HQ.out, hrs.out, lenBits_is (by omega) (by omega), farBits_is, ← hL.out.1]
                            simp only [natBits_append, List.append_assoc]
                          · rw [← hL.out.2, deflB_unfold (byte s) s.size i, if_pos hlt, HCP.out, if_neg (by simp only; omega)]
                            simp only [List.append_assoc]
                        have hiB : i + B1 ≤ s.size := by have := HCL.out; omega
                        clear hNv hLA hLB hLG hLH hL
                        go_wp2_with fail
                        go_roundw
                        case rel => exact ⟨i + B1, _, LH, hiB, by go_num, hend, by omega, hoH, hbI.trans hbH1⟩
                        case measure => simp [intOf]; omega
                      · have hgt2 : ¬ (B2 : Int) < (p1 : Int) := by omega
                        have hr28 : r < 28 := by
                          have hs28 : ¬ r = 28 := by
                            intro e
                            have : (farN 29).1 = 24577 := by decide
                            have h9 := HP1.out
                            rw [e, show 28 + 1 = 29 from rfl, this] at h9
                            omega
                          omega
                        go_wp2_with fail
                        refine hfa.mono ?_
                        rintro e wE ⟨rfl, hbE2⟩
                        go_wp2_with fail
                        go_roundw
                        case rel => exact ⟨r + 1, by omega, by go_num, by unfold Hid; rw [HP1.out]; omega, hbE.trans (hbE2.mono hbE.size)⟩
                        case measure => simp [intOf]; omega
                  · have hgt2 : ¬ (B1 : Int) < (p1 : Int) := by omega
                    go_wp2_with fail
                    refine hle.mono ?_
                    rintro e wE ⟨rfl, hbE2⟩
                    go_wp2_with fail
                    go_roundw
                    case rel => exact ⟨q + 1, by omega, by go_num, by unfold Hid; rw [HP1.out]; omega, hb7.trans (hbE2.mono hb7.size)⟩
                    case measure => simp [intOf]; omega
                · have hq2 : ¬ ((257 + q : Nat) : Int) < 285 := by omega
                  have HQ : Hid (q = lenSign B1) := lenSign_of (by omega) (by omega) hq hq1.out (fun h => by omega)
                  rw [show ((257 + q : Nat) : Int) = 257 + (q : Int) by omega] at hq2 ⊢
                  go_wp2_with fail
                  refine (jLeast_any q wr (by omega)).mono ?_
                  rintro e w8 ⟨rfl, hb8⟩
                  have hb9 : Below w6.heap.size w6 w8 := hb7.trans (hb8.mono hb7.size)
                  have hbB : Below w3.heap.size w3 w8 := hbA.trans (hb9.mono hs6)
                  have hs8 := Nat.le_trans hs6 hb9.size
                  have ho8 := ownsRow_later HO6.out hb9
                  obtain ⟨n1, hn1⟩ : ∃ n1, (leastN q).1 = n1 := ⟨_, rfl⟩
                  obtain ⟨m1, hm1⟩ : ∃ m1, (leastN q).2 = m1 := ⟨_, rfl⟩
                  have hm1l : m1 ≤ 5 := by rw [← hm1]; exact (least_small ⟨q, by omega⟩).2
                  have hn1l : n1 ≤ B1 := by rw [← hn1, HQ.out]; exact (lenSign_is (by omega) (by omega)).2.1
                  rw [hn1, hm1]
                  obtain ⟨sg, hsg⟩ : ∃ sg, 257 + q = sg := ⟨_, rfl⟩
                  have hC8 := (HX.out.1).later hbB HX.out.2.2.2.2.1
                  obtain ⟨z0, z1, _, _⟩ := hC8.at (t := sg) (by omega)
                  rw [codeOf_fixed sg (by omega)] at z0 z1
                  have hfc := (fix_fin ⟨sg, by omega⟩).2
                  have hfw := fixC_wide sg
                  simp only at hfc
                  have hfc2 : (fixC sg).1 ≤ 1000 := by
                    have : 2 ^ (fixC sg).2 ≤ 2 ^ 9 := Nat.pow_le_pow_right (by omega) hfw.2
                    omega
                  have hW1 := jWord_any w3.heap.size _ L (fixC sg).1 (fixC sg).2 w8 ho8 hs8 (by omega) (by omega) (by omega)
                  obtain ⟨f1, hf1⟩ : ∃ f1, (fixC sg).1 = f1 := ⟨_, rfl⟩
                  obtain ⟨f2, hf2⟩ : ∃ f2, (fixC sg).2 = f2 := ⟨_, rfl⟩
                  have HSB : Hid (codeBits f1 f2 = signBits sg ∧ f2 ≤ 9) := ⟨by rw [← hf1, ← hf2]; rfl, by omega⟩
                  rw [hf1, hf2] at hW1
                  rw [hf1] at z0
                  rw [hf2] at z1
                  have esg : (257 : Int) + (q : Int) = (sg : Int) := by omega
                  have HSG : Hid (257 + q = sg) := hsg
                  have HN1 : Hid ((leastN q).1 = n1 ∧ (leastN q).2 = m1) := ⟨hn1, hm1⟩
                  have hsgl : (sg : Int) < 288 := by omega
                  clear hn1 hm1 hf1 hf2 hfc hfw hfc2 hsg hC8 ho8 hb8
                  go_wp2_with fail
                  refine hW1.mono ?_
                  rintro e wA ⟨⟨vA, LA, rfl, hLA, hoA⟩, hbA1⟩
                  have hbC : Below w3.heap.size w3 wA := hbB.trans hbA1
                  have hsA := Nat.le_trans hs8 hbA1.size
                  have hlA : LA.length ≤ L.length + 9 := by rw [← hLA.out, List.length_append, natBits_length, codeBits_length]; have := HSB.out.2; omega
                  have hNu := jNum_any w3.heap.size _ LA (B1 - n1) m1 wA hoA hsA (by omega) (by omega) (by omega)
                  obtain ⟨e1, he1⟩ : ∃ e1, B1 - n1 = e1 := ⟨_, rfl⟩
                  have ee1 : (B1 : Int) - (n1 : Int) = (e1 : Int) := by omega
                  have HE1 : Hid (B1 - n1 = e1) := he1
                  rw [he1] at hNu
                  clear he1 hW1 z0 z1 hoA
                  go_wp2_with fail
                  refine hNu.mono ?_
                  rintro e wB ⟨⟨vB, LB, rfl, hLB, hoB⟩, hbB1⟩
                  have hbD : Below w3.heap.size w3 wB := hbC.trans hbB1
                  have hsB := Nat.le_trans hsA hbB1.size
                  have hlB : LB.length ≤ L.length + 14 := by rw [← hLB.out, List.length_append, natBits_length, numBits_length]; omega
                  have HOB : Hid (wB.ownsRow w3.heap.size 3 1 vB LB.length (intCells LB)) := hoB
                  clear hNu hoB hb7 hb9
                  go_wp2_with fail
                  go_loopw [18] (fun t wr => ∃ r : Nat, r ≤ 28 ∧ t = .int .i64 (r : Int) ∧ Hid ((farN r).1 ≤ B2) ∧ Below wB.heap.size wB wr) (fun t _ => 29 - (intOf t).toNat)
                  case atStart =>
                    have h0 : (farN 0).1 = 1 := by decide
                    exact ⟨0, by omega, rfl, by unfold Hid; omega, Below.refl _ _⟩
                  case round =>
                    obtain ⟨r, hr, rfl, hr1, hbE⟩ := hrel
                    have hr29 : (r : Int) < 29 := by omega
                    have hfa := jFar_any (r + 1) wr (by omega)
                    obtain ⟨p1, hp1⟩ : ∃ p1, (farN (r + 1)).1 = p1 := ⟨_, rfl⟩
                    obtain ⟨p2, hp2⟩ : ∃ p2, (farN (r + 1)).2 = p2 := ⟨_, rfl⟩
                    rw [hp1, hp2, show ((r + 1 : Nat) : Int) = (r : Int) + 1 by omega] at hfa
                    have HP1 : Hid ((farN (r + 1)).1 = p1) := hp1
                    clear hp1 hp2
                    by_cases hgt : B2 < p1
                    · have hgt2 : (B2 : Int) < (p1 : Int) := by omega
                      have hrs : Hid (r = stepOf (B2 - 1) 2) := stepOf_far (by omega) hr1.out (by omega) (by rw [HP1.out]; exact hgt)
                      go_wp2_with fail
                      refine hfa.mono ?_
                      rintro e wE ⟨rfl, hbE2⟩
                      have hbF : Below wB.heap.size wB wE := hbE.trans (hbE2.mono hbE.size)
                      have hfb := jFar_any r wE (by omega)
                      obtain ⟨p3, hp3⟩ : ∃ p3, (farN r).1 = p3 := ⟨_, rfl⟩
                      obtain ⟨p4, hp4⟩ : ∃ p4, (farN r).2 = p4 := ⟨_, rfl⟩
                      have hp3l : p3 ≤ B2 := by rw [← hp3]; exact hr1.out
                      have hr18 : r < 18 := by rw [hrs.out]; exact step_lt2 (by omega)
                      have hp4l : p4 ≤ 7 := by rw [← hp4]; exact (far_fin2 ⟨r, hr18⟩).1
                      have HP3 : Hid ((farN r).1 = p3 ∧ (farN r).2 = p4) := ⟨hp3, hp4⟩
                      rw [hp3, hp4] at hfb
                      clear hfa hp3 hp4 hr1 HP1
                      go_wp2_with fail
                      refine hfb.mono ?_
                      rintro e wF ⟨rfl, hbF2⟩
                      have hbG : Below wB.heap.size wB wF := hbF.trans (hbF2.mono hbF.size)
                      have hbH : Below w3.heap.size w3 wF := hbD.trans (hbG.mono hsB)
                      have hsF := Nat.le_trans hsB hbG.size
                      have hoF := ownsRow_later HOB.out hbG
                      have hC9 := (HX.out.2.1).later hbH HX.out.2.2.2.2.2
                      obtain ⟨z0, z1, _, _⟩ := hC9.at (t := r) (by omega)
                      rw [codeOf_far r (by omega)] at z0 z1
                      simp only at z0 z1
                      have hW2 := jWord_any w3.heap.size _ LB r 5 wF hoF hsF (by omega) (by omega) (by omega)
                      have hr32 : (r : Int) < 32 := by omega
                      have e5 : ((5 : Nat) : Int) = 5 := rfl
                      rw [e5] at hW2 z1
                      clear hfb hC9 hoF
                      go_wp2_with fail
                      refine hW2.mono ?_
                      rintro e wG ⟨⟨vG, LG, rfl, hLG, hoG⟩, hbG1⟩
                      have hbI : Below w3.heap.size w3 wG := hbH.trans hbG1
                      have hsG := Nat.le_trans hsF hbG1.size
                      have hlG : LG.length ≤ L.length + 19 := by rw [← hLG.out, List.length_append, natBits_length, codeBits_length]; omega
                      have hNv := jNum_any w3.heap.size _ LG (B2 - p3) p4 wG hoG hsG (by omega) (by omega) (by omega)
                      obtain ⟨e2, he2⟩ : ∃ e2, B2 - p3 = e2 := ⟨_, rfl⟩
                      have ee2 : (B2 : Int) - (p3 : Int) = (e2 : Int) := by omega
                      have HE2 : Hid (B2 - p3 = e2) := he2
                      rw [he2] at hNv
                      clear he2 hW2 z0 z1 hoG
                      go_wp2_with fail
                      refine hNv.mono ?_
                      rintro e wH ⟨⟨vH, LH, rfl, hLH, hoH⟩, hbH1⟩
                      have hlH : LH.length ≤ L.length + 26 := by rw [← hLH.out, List.length_append, natBits_length, numBits_length]; omega
                      have hend : Hid (natBits (bs ++ (lenBits B1 ++ farBits B2)) = LH ∧ bs ++ (lenBits B1 ++ farBits B2) ++ deflB (byte s) s.size (i + B1) = deflBits s) := by
                        refine ⟨?_, ?_⟩
                        · rw [← hLH.out, ← hLG.out, ← hLB.out, ← hLA.out, ← HE1.out, ← HE2.out, HSB.out.1, ← HSG.out, ← HN1.out.1, ← HN1.out.2, ← HP3.out.1, ← HP3.out.2, HQ.out, hrs.out, lenBits_is (by omega) (by omega), farBits_is, ← hL.out.1]
                          simp only [natBits_append, List.append_assoc]
                        · rw [← hL.out.2, deflB_unfold (byte s) s.size i, if_pos hlt, HCP.out, if_neg (by simp only; omega)]
                          simp only [List.append_assoc]
                      have hiB : i + B1 ≤ s.size := by have := HCL.out; omega
                      clear hNv hLA hLB hLG hLH hL
                      go_wp2_with fail
                      go_roundw
                      case rel => exact ⟨i + B1, _, LH, hiB, by go_num, hend, by omega, hoH, hbI.trans hbH1⟩
                      case measure => simp [intOf]; omega
                    · have hgt2 : ¬ (B2 : Int) < (p1 : Int) := by omega
                      have hr28 : r < 28 := by
                        have hs28 : ¬ r = 28 := by
                          intro e
                          have : (farN 29).1 = 24577 := by decide
                          have h9 := HP1.out
                          rw [e, show 28 + 1 = 29 from rfl, this] at h9
                          omega
                        omega
                      go_wp2_with fail
                      refine hfa.mono ?_
                      rintro e wE ⟨rfl, hbE2⟩
                      go_wp2_with fail
                      go_roundw
                      case rel => exact ⟨r + 1, by omega, by go_num, by unfold Hid; rw [HP1.out]; omega, hbE.trans (hbE2.mono hbE.size)⟩
                      case measure => simp [intOf]; omega
    · have hlt2 : ¬ (i : Int) < (s.size : Int) := by omega
      have hC8 := (HX.out.1).later hb HX.out.2.2.2.2.1
      obtain ⟨z0, z1, _, _⟩ := hC8.at (t := 256) (by omega)
      rw [codeOf_fixed 256 (by omega), show 256 * 2 = 512 from rfl] at z0 z1
      rw [show 512 + 1 = 513 from rfl] at z1
      have hsw := hb.size
      have hW1 := jWord_any w3.heap.size _ L (fixC 256).1 (fixC 256).2 wr ho hsw (by omega) (by decide) (by decide)
      obtain ⟨f1, hf1⟩ : ∃ f1, (fixC 256).1 = f1 := ⟨_, rfl⟩
      obtain ⟨f2, hf2⟩ : ∃ f2, (fixC 256).2 = f2 := ⟨_, rfl⟩
      have HSB : Hid (codeBits f1 f2 = signBits 256) := by unfold Hid; rw [← hf1, ← hf2]; rfl
      rw [hf1, hf2] at hW1
      rw [hf1] at z0
      rw [hf2] at z1
      have HEND : Hid (∀ LA, L ++ natBits (codeBits f1 f2) = LA → natBits (deflBits s) = LA ∧ (deflBits s).length ≤ 100000) := by
        intro LA h
        have h2 := hL.out.2
        rw [deflB_unfold, if_neg (by omega)] at h2
        refine ⟨by rw [← h, ← h2, natBits_append, hL.out.1, HSB.out], ?_⟩
        rw [← h2, List.length_append, signBits_end]
        have h3 : (natBits bs).length = bs.length := natBits_length bs
        rw [hL.out.1] at h3
        omega
      clear hf1 hf2 hC8 hL
      go_wp2_with fail
      refine hW1.mono ?_
      rintro e wA ⟨⟨vA, LA, rfl, hLA, hoA⟩, hbA1⟩
      obtain ⟨hE1, hE2⟩ := HEND.out LA hLA.out
      rw [← hE1] at hoA
      have hbA2 : Below w3.heap.size w3 wA := hb.trans hbA1
      go_wp2_with fail
      refine (jBits_any vA (deflBits s) wA (own_ints hoA) hE2).mono ?_
      rintro e wB ⟨⟨vB, rfl, hoB⟩, hbB1⟩
      have hw3 := (HX.out.2.2.2.1)
      have hsw2 := hbA2.size
      have hsw3 := hw3.size
      go_wp2_with fail
      go_ret
      exact ⟨⟨_, rfl, own_mono hoB (by omega)⟩, hw3.trans ((hbA2.trans (hbB1.mono hsw2)).mono hsw3)⟩
end Go.Proofs.Ytbhnlomppobbkaa
