/-
  Package nat: a product of words.
-/
import Derived.Test.YtpcmpeeflnlkpaaDoorNBitsEtc
namespace Go.Proofs.YtpcmpeeflnlkpaaDoor
open Go.RowKit Ch
set_option maxRecDepth 100000

def RW : KR := ⟨.u64, 69, 61, 8, Tryd.underlying61, by kernel_rfl, by decide⟩
/-- A value is the number N, in at most n words. -/
def IsW (n : Nat) (w : World) (v : Value) (N : Nat) : Prop := ∃ y c L, v = .slice y L.length c ∧ IsN .u64 w v L ∧ AllW L ∧ Tidy L ∧ numW L = N ∧ L.length ≤ n
theorem IsW.later {n : Nat} {w w' : World} {v : Value} {N : Nat} (h : IsW n w v N) (hb : Below w.heap.size w w') : IsW n w' v N := by
  obtain ⟨y, c, L, h1, h2, h3⟩ := h
  exact ⟨y, c, L, h1, h2.later hb, h3⟩
theorem IsW.more {n m : Nat} {w : World} {v : Value} {N : Nat} (h : IsW n w v N) (hm : n ≤ m) : IsW m w v N := by
  obtain ⟨y, c, L, h1, h2, h3, h4, h5, h6⟩ := h
  exact ⟨y, c, L, h1, h2, h3, h4, h5, by omega⟩
theorem isW_trim {w : World} {y : Option Addr} {c n N : Nat} {L : List Nat} (hI : IsN .u64 w (.slice y (trimL L).length c) (trimL L)) (hA : AllW L) (hN : numW L = N) (hn : L.length ≤ n) : IsW n w (.slice y (trimL L).length c) N := by
  refine ⟨y, c, trimL L, rfl, hI, hA.trim, tidy_trim L, by rw [numW_trim _ L rfl, hN], ?_⟩
  refine Nat.le_trans ?_ hn
  unfold trimL
  rw [List.length_reverse]
  exact Nat.le_trans (List.dropWhile_sublist _).length_le (by simp)
set_option maxHeartbeats 4000000 in
theorem nProduct_any (ya yb : Option Addr) (ca cb : Nat) (A V : List Nat) (w : World) (hIA : IsN .u64 w (.slice ya A.length ca) A) (hIV : IsN .u64 w (.slice yb V.length cb) V) (hA : AllW A) (hAV : AllW V) (hla : A.length ≤ 100000) (hlv : V.length ≤ 100000) :
    Calls Tryd.prog 42 #[.slice ya A.length ca, .slice yb V.length cb] w fun e w' => (∃ v, e = .returned v ∧ IsW (A.length + V.length) w' v (numW A * numW V)) ∧ Below w.heap.size w w' := by
  obtain ⟨na, hna⟩ : ∃ na, A.length = na := ⟨_, rfl⟩
  obtain ⟨m, hm⟩ : ∃ m, V.length = m := ⟨_, rfl⟩
  have HIA := show Hid (IsN .u64 w (.slice ya na ca) A ∧ A.length = na) from ⟨by rw [← hna]; exact hIA, hna⟩
  have HIV := show Hid (IsN .u64 w (.slice yb m cb) V ∧ V.length = m) from ⟨by rw [← hm]; exact hIV, hm⟩
  rw [hna, hm]
  rw [hna] at hla
  rw [hm] at hlv
  clear hIA hIV hna hm
  obtain ⟨cc, hcc⟩ : ∃ cc, na + m = cc := ⟨_, rfl⟩
  have hccI : (na : Int) + (m : Int) = (cc : Int) := by omega
  have HCC := show Hid (na + m = cc) from hcc
  have hccl : cc ≤ 200000 := by omega
  rw [hcc]
  clear hcc
  go_enter Tryd.func42, Tryd.ntmps42
  go_wp2_with (at_make; go_must (refine wpList_make_n RW w rfl _ _ rfl .i64 .i64 _ _ cc rfl rfl rfl rfl (by omega) ?_; intro w1 ho1 hb1))
  obtain ⟨hR1, _⟩ := RowN.own ho1
  obtain ⟨g, hg⟩ : ∃ g, w.heap.size = g := ⟨_, rfl⟩
  have HG := show Hid (w.heap.size = g) from hg
  have HR1 := show Hid (RowN .u64 w1 g (List.replicate cc 0) ∧ Below w.heap.size w w1) from ⟨by rw [← hg]; exact hR1, hb1⟩
  rw [hg]
  clear ho1 hb1 hR1 hg
  go_loopw [23] (fun p wr => ∃ (i : Nat) (L : List Nat), i ≤ na ∧ p = .int .i64 (i : Int) ∧ Hid (RowN .u64 wr g L ∧ AllW L ∧ L.length = cc ∧ Below w.heap.size w wr) ∧ Hid (pv L 0 (i + m) = numW (A.take i) * numW V)) (fun p _ => na - (intOf p).toNat)
  case atStart =>
    refine ⟨0, List.replicate cc 0, by omega, rfl, ⟨HR1.out.1, allW_zero _, by simp, HR1.out.2⟩, ?_⟩
    have h0 : pv (List.replicate cc 0) 0 (0 + m) = 0 := by
      unfold pv
      rw [List.drop_zero, List.take_replicate, numW_zero]
    unfold Hid
    rw [h0]
    simp [numW]
  case round =>
    obtain ⟨i, L, hi, rfl, hR, hE⟩ := hrel
    by_cases hin : i < na
    · have hin2 : (i : Int) < (na : Int) := by omega
      obtain ⟨x, hx⟩ : ∃ x, A[i]? = some x := ⟨_, List.getElem?_eq_getElem (by rw [HIA.out.2]; exact hin)⟩
      obtain ⟨hmv, ba, oa, rfl, _, gx⟩ := IsN.cellAt (HIA.out.1.later hR.out.2.2.2) hx
      clear hmv
      have hxB := hA.at hx
      have HX := show Hid (numW (A.take (i + 1)) = numW (A.take i) + 18446744073709551616 ^ i * x) from numW_take hx
      obtain ⟨im, him⟩ : ∃ im, i + m = im := ⟨_, rfl⟩
      have himI : (i : Int) + (m : Int) = (im : Int) := by omega
      have HIM := show Hid (i + m = im) from him
      have q1 : i ≤ im := by omega
      have q2 : im < cc := by have := HCC.out; omega
      have q1i : (i : Int) ≤ (im : Int) := by omega
      have q2i : (im : Int) ≤ (cc : Int) := by omega
      have q3i : (im : Int) < (cc : Int) := by omega
      have q4 : ¬ cc = i := by omega
      have q5 : i ≤ cc := by omega
      have q6 : im - i = m := by omega
      have q7 : ((im : Int) - (i : Int)).toNat = m := by omega
      have q8 : (im : Int) - (i : Int) = (m : Int) := by omega
      clear hx him
      obtain ⟨w0, hw0⟩ : ∃ w0, w0 = wr := ⟨_, rfl⟩
      subst hw0
      go_wp2_with fail
      go_loopw [37, 9] (fun p q wr => ∃ (j k : Nat) (L' : List Nat), j ≤ m ∧ k < 18446744073709551616 ∧ p = .int .i64 (j : Int) ∧ q = .int .u64 (k : Int) ∧ Hid (Wrote w0 wr g L L' i j) ∧ Hid (pv L' i j + k * 18446744073709551616 ^ j = pv L i j + x * numW (V.take j))) (fun p _ _ => m - (intOf p).toNat)
      case atStart => exact ⟨0, 0, L, by omega, by omega, rfl, rfl, Wrote.start hR.out.1 hR.out.2.1 i, by unfold Hid; simp [pv_zero, numW]⟩
      case round =>
        obtain ⟨j, k, L', hj, hk, rfl, rfl, hW, hE2⟩ := hrel
        have HBW := show Hid (Below w.heap.size w wr) from (hR.out.2.2.2).grown hW.out.2.2.2.2 hR.out.2.2.2.size (fun b hb => by obtain rfl : g = b := Option.some.inj hb; rw [HG.out]; exact Nat.le_refl _)
        by_cases hjm : j < m
        · have hjm2 : (j : Int) < (m : Int) := by omega
          obtain ⟨y, hy⟩ : ∃ y, V[j]? = some y := ⟨_, List.getElem?_eq_getElem (by rw [HIV.out.2]; exact hjm)⟩
          obtain ⟨p, hp⟩ : ∃ p, L'[i + j]? = some p := ⟨_, List.getElem?_eq_getElem (by rw [hW.out.2.2.1, hR.out.2.2.1]; have := HCC.out; omega)⟩
          have hp0 : L[i + j]? = some p := by rw [← hW.out.2.2.2.1 (i + j) (by omega)]; exact hp
          obtain ⟨hmv, bv, ov, rfl, _, gy⟩ := IsN.cellAt (HIV.out.1.later HBW.out) hy
          clear hmv
          obtain ⟨gp, gf, hpB⟩ := hW.out.cell hp
          have hyB := hAV.at hy
          obtain ⟨p', k', hp'B, hk'B, hpl, hp'e, hk'e⟩ := mul_place hxB hyB hpB hk
          have hM := Tryd.bits_Mul64 x y hxB hyB
          have hzl := mul_lt_word hxB hyB
          have HPL := show Hid (p' + k' * 18446744073709551616 = p + x * y + k) from hpl
          obtain ⟨z, hz⟩ : ∃ z, x * y = z := ⟨_, rfl⟩
          rw [hz] at hM hp'e hk'e hzl
          clear hz hpl
          obtain ⟨hi64, hhi⟩ : ∃ a, z / 18446744073709551616 = a := ⟨_, rfl⟩
          obtain ⟨lo64, hlo⟩ : ∃ a, z % 18446744073709551616 = a := ⟨_, rfl⟩
          rw [hhi, hlo] at hM hk'e
          rw [hlo] at hp'e
          have hloB : lo64 < 18446744073709551616 := by omega
          have hhiB : hi64 < 18446744073709551615 := by omega
          clear hhi hlo hzl z
          have hA1 := add64_run lo64 p 0 hloB hpB (by omega)
          obtain ⟨l1, hl1⟩ : ∃ a, (lo64 + p) % 18446744073709551616 = a := ⟨_, rfl⟩
          obtain ⟨c1, hc1⟩ : ∃ a, (lo64 + p) / 18446744073709551616 = a := ⟨_, rfl⟩
          rw [Nat.add_zero, hl1, hc1] at hA1
          rw [hl1] at hp'e
          rw [hl1, hc1] at hk'e
          have hl1B : l1 < 18446744073709551616 := by omega
          have hc1B : c1 ≤ 1 := by omega
          clear hl1 hc1
          have hA2 := add64_run hi64 0 c1 (by omega) (by omega) hc1B
          have e2 : (hi64 + 0 + c1) % 18446744073709551616 = hi64 + c1 := by omega
          obtain ⟨d2, hd2⟩ : ∃ a, (hi64 + 0 + c1) / 18446744073709551616 = a := ⟨_, rfl⟩
          rw [e2, hd2] at hA2
          clear e2 hd2
          obtain ⟨h2, hh2⟩ : ∃ a, hi64 + c1 = a := ⟨_, rfl⟩
          rw [hh2] at hA2 hk'e
          have hh2B : h2 < 18446744073709551616 := by omega
          clear hh2
          have hA3 := add64_run l1 k 0 hl1B hk (by omega)
          obtain ⟨b1, hb1⟩ : ∃ a, (l1 + k) / 18446744073709551616 = a := ⟨_, rfl⟩
          rw [Nat.add_zero, ← hp'e, hb1] at hA3
          rw [hb1] at hk'e
          have hb1B : b1 ≤ 1 := by omega
          clear hb1 hp'e
          have hA4 := add64_run h2 0 b1 hh2B (by omega) hb1B
          have e3 : (h2 + 0 + b1) % 18446744073709551616 = k' := by omega
          obtain ⟨d3, hd3⟩ : ∃ a, (h2 + 0 + b1) / 18446744073709551616 = a := ⟨_, rfl⟩
          rw [e3, hd3] at hA4
          clear e3 hd3 hk'e
          have HN := show Hid (Wrote w0 (wr.setCell ⟨g, i + j, none⟩ (.int .u64 (p' : Int))) g L (L'.set (i + j) p') i (j + 1) ∧ pv (L'.set (i + j) p') i (j + 1) + k' * 18446744073709551616 ^ (j + 1) = pv L i (j + 1) + x * numW (V.take (j + 1))) from by
            refine ⟨hW.out.next hp hp'B, ?_⟩
            rw [pv_put hp, pv_succ hp0, numW_take hy, Nat.pow_succ, Nat.mul_add, Nat.mul_left_comm x]
            exact acc_step hE2.out HPL.out
          clear hp hp0 hy hE2 hW hpB hyB HPL
          have hA1' : ∀ u, (callFunc 61 #[.int .u64 (lo64 : Int), .int .u64 (p : Int), .int .u64 0]).run Tryd.prog u = .ok (.value (.tuple #[.int .u64 (l1 : Int), .int .u64 (c1 : Int)])) u := hA1
          have hA2' : ∀ u, (callFunc 61 #[.int .u64 (hi64 : Int), .int .u64 0, .int .u64 (c1 : Int)]).run Tryd.prog u = .ok (.value (.tuple #[.int .u64 (h2 : Int), .int .u64 (d2 : Int)])) u := hA2
          have hA3' : ∀ u, (callFunc 61 #[.int .u64 (l1 : Int), .int .u64 (k : Int), .int .u64 0]).run Tryd.prog u = .ok (.value (.tuple #[.int .u64 (p' : Int), .int .u64 (b1 : Int)])) u := hA3
          have hA4' : ∀ u, (callFunc 61 #[.int .u64 (h2 : Int), .int .u64 0, .int .u64 (b1 : Int)]).run Tryd.prog u = .ok (.value (.tuple #[.int .u64 (k' : Int), .int .u64 (d3 : Int)])) u := hA4
          clear hA1 hA2 hA3 hA4
          go_wp2_with fail
          refine (hM _).mono ?_
          rintro e w5 ⟨rfl, rfl⟩
          clear hM
          go_wp2_with fail
          go_roundw
          case rel => exact ⟨j + 1, k', L'.set (i + j) p', by omega, hk'B, by go_num, rfl, HN.out.1, HN.out.2⟩
          case measure => simp [intOf]; omega
        · have hjm2 : ¬ (j : Int) < (m : Int) := by omega
          obtain rfl : j = m := by omega
          obtain ⟨p, hp⟩ : ∃ p, L'[im]? = some p := ⟨_, List.getElem?_eq_getElem (by rw [hW.out.2.2.1, hR.out.2.2.1]; exact q2)⟩
          obtain ⟨gp, gf, hpB⟩ := hW.out.cell hp
          have HN := show Hid (RowN .u64 (wr.setCell ⟨g, im, none⟩ (.int .u64 (k : Int))) g (L'.set im k) ∧ AllW (L'.set im k) ∧ (L'.set im k).length = cc ∧ Below w.heap.size w (wr.setCell ⟨g, im, none⟩ (.int .u64 (k : Int)))) from by
            refine ⟨hW.out.1.set hp k, hW.out.2.1.set _ hk, by rw [List.length_set, hW.out.2.2.1, hR.out.2.2.1], ?_⟩
            exact HBW.out.grown (grown_cell wr ⟨g, im, none⟩ _) HBW.out.size (fun b hb => by obtain rfl : g = b := Option.some.inj hb; rw [HG.out]; exact Nat.le_refl _)
          have HP := show Hid (pv (L'.set im k) 0 (i + 1 + j) = numW (A.take (i + 1)) * numW V) from by
            have h1 := hE2.out
            rw [List.take_of_length_le (by rw [HIV.out.2]; exact Nat.le_refl _)] at h1
            unfold Hid
            rw [HX.out, ← HIM.out]
            exact prod_row hW.out.2.2.1 hW.out.2.2.2.1 h1 hE.out (by rw [HIM.out]; exact hp)
          clear hp hE2 hW hpB hE hR
          go_wp2_with fail
          go_roundw
          case rel => exact ⟨i + 1, L'.set im k, by omega, by go_num, HN.out, HP.out⟩
          case measure => simp [intOf]; omega
    · have hin2 : ¬ (i : Int) < (na : Int) := by omega
      obtain rfl : i = na := by omega
      have hT := nTrimmed_any (some ⟨g, 0, none⟩) cc L wr (by
        have := hR.out.1.isN (o := 0) (n := L.length) (c := cc) (by omega) (by rw [hR.out.2.2.1]; exact Nat.le_refl _) (by omega)
        rw [List.drop_zero, List.take_length] at this
        exact this) (by rw [hR.out.2.2.1]; omega)
      have HT := show Hid (numW L = numW A * numW V) from by
        have h1 := hE.out
        rw [List.take_of_length_le (by rw [HIA.out.2]; exact Nat.le_refl _), HCC.out, pv_full hR.out.2.2.1] at h1
        exact h1
      rw [hR.out.2.2.1] at hT
      go_wp2_with fail
      refine hT.mono ?_
      rintro e w5 ⟨rfl, hI5, rfl⟩
      clear hT
      have HI5 := show Hid (IsW cc w5 (.slice (some ⟨g, 0, none⟩) (trimL L).length cc) (numW A * numW V)) from isW_trim hI5 hR.out.2.1 HT.out (by rw [hR.out.2.2.1]; exact Nat.le_refl _)
      clear hI5
      go_wp2_with fail
      go_ret
      exact ⟨⟨_, rfl, HI5.out⟩, hR.out.2.2.2⟩
end Go.Proofs.YtpcmpeeflnlkpaaDoor
