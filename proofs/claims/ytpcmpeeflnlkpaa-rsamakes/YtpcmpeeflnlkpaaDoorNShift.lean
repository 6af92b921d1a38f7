/-
  Package nat: words doubled and halved.
-/
import Derived.Test.YtpcmpeeflnlkpaaDoorNShR
import Derived.Test.YtpcmpeeflnlkpaaDoorNProd
import Derived.Laws.Bits64b
namespace Go.Proofs.YtpcmpeeflnlkpaaDoor
open Go.RowKit Ch
set_option maxRecDepth 100000

theorem wrap_mul (x t : Nat) : IntKind.u64.wrap ((x : Int) * 2 ^ t) = ((x * 2 ^ t % 18446744073709551616 : Nat) : Int) := by
  have : (x : Int) * 2 ^ t = ((x * 2 ^ t : Nat) : Int) := by simp
  rw [this, IntKind.wrap_u64]
  omega
set_option maxHeartbeats 4000000 in
theorem nShiftUp_any (y : Option Addr) (c t : Nat) (A : List Nat) (w : World) (hI : IsN .u64 w (.slice y A.length c) A) (hA : AllW A) (hl : A.length ≤ 50000) (ht : t < 64) :
    Calls Tryd.prog 65 #[.slice y A.length c, .int .i64 (t : Int)] w fun e w' => (e = .returned (.slice (some ⟨w.heap.size, 0, none⟩) (A.length + 1) (A.length + 1)) ∧ ∃ L, RowN .u64 w' w.heap.size L ∧ AllW L ∧ L.length = A.length + 1 ∧ numW L = numW A * 2 ^ t) ∧ Below w.heap.size w w' := by
  obtain ⟨na, hna⟩ : ∃ na, A.length = na := ⟨_, rfl⟩
  have HIA := show Hid (IsN .u64 w (.slice y na c) A ∧ A.length = na) from ⟨by rw [← hna]; exact hI, hna⟩
  rw [hna]
  rw [hna] at hl
  clear hI hna
  obtain ⟨cc, hcc⟩ : ∃ cc, na + 1 = cc := ⟨_, rfl⟩
  have hccI : (na : Int) + 1 = (cc : Int) := by omega
  have HCC := show Hid (na + 1 = cc) from hcc
  have hccl : cc ≤ 100001 := by omega
  rw [hcc]
  clear hcc
  obtain ⟨t1, ht1⟩ : ∃ t1, 64 - t = t1 := ⟨_, rfl⟩
  have ht1I : (64 : Int) - (t : Int) = (t1 : Int) := by omega
  have HT1 := show Hid (2 ^ t * 2 ^ t1 = 18446744073709551616) from by unfold Hid; rw [← ht1]; exact pow_halves (by omega)
  have ht1l : (t1 : Int) ≤ 64 := by omega
  have ht1w : IntKind.i64.wrap (t1 : Int) = (t1 : Int) := by rw [IntKind.wrap_i64]; omega
  have ht64 : (t : Int) ≤ 64 := by omega
  clear ht1
  go_enter Tryd.func65, Tryd.ntmps65
  go_wp2_with (at_make; go_must (refine wpList_make_n RW w rfl _ _ rfl .i64 .i64 _ _ cc rfl rfl rfl rfl (by omega) ?_; intro w1 ho1 hb1))
  obtain ⟨hR1, _⟩ := RowN.own ho1
  obtain ⟨g, hg⟩ : ∃ g, w.heap.size = g := ⟨_, rfl⟩
  have HG := show Hid (w.heap.size = g) from hg
  have HR1 := show Hid (RowN .u64 w1 g (List.replicate cc 0) ∧ Below w.heap.size w w1) from ⟨by rw [← hg]; exact hR1, hb1⟩
  rw [hg]
  clear ho1 hb1 hR1 hg
  go_loopw [14] (fun p wr => ∃ (i : Nat) (L : List Nat), i ≤ na ∧ p = .int .i64 (i : Int) ∧ Hid (RowN .u64 wr g L ∧ AllW L ∧ L.length = cc ∧ Below w.heap.size w wr) ∧ Hid (pv L 0 (i + 1) = numW (A.take i) * 2 ^ t ∧ ∃ cw, L[i]? = some cw ∧ cw < 2 ^ t)) (fun p _ => na - (intOf p).toNat)
  case atStart =>
    refine ⟨0, List.replicate cc 0, by omega, rfl, ⟨HR1.out.1, allW_zero _, by simp, HR1.out.2⟩, ?_, 0, ?_, Nat.pow_pos (by decide)⟩
    · unfold pv
      rw [List.drop_zero, List.take_replicate, numW_zero]
      simp [numW]
    · rw [List.getElem?_replicate, if_pos (by have := HCC.out; omega)]
  case round =>
    obtain ⟨i, L, hi, rfl, hR, hE⟩ := hrel
    by_cases hin : i < na
    · have hin2 : (i : Int) < (na : Int) := by omega
      have hic : (i : Int) < (cc : Int) := by omega
      obtain ⟨x, hx⟩ : ∃ x, A[i]? = some x := ⟨_, List.getElem?_eq_getElem (by rw [HIA.out.2]; exact hin)⟩
      obtain ⟨hmv, ba, oa, rfl, _, gx⟩ := IsN.cellAt (HIA.out.1.later hR.out.2.2.2) hx
      clear hmv
      have hxB := hA.at hx
      have HX := show Hid (numW (A.take (i + 1)) = numW (A.take i) + 18446744073709551616 ^ i * x) from numW_take hx
      obtain ⟨hpv, cw, hcw, hcwS⟩ := hE.out
      obtain ⟨u1, u2, u3⟩ := up_place HT1.out hcwS hxB
      have hcwB : cw < 18446744073709551616 := hR.out.2.1.at hcw
      have hsm : x * 2 ^ t % 18446744073709551616 = x % 2 ^ t1 * 2 ^ t := by rw [← HT1.out, Nat.mul_comm (2 ^ t) (2 ^ t1), Nat.mul_mod_mul_right]
      have hor : bits .or .u64 (cw : Int) ((x * 2 ^ t % 18446744073709551616 : Nat) : Int) = ((x * 2 ^ t % 18446744073709551616 + cw : Nat) : Int) := by
        rw [bits_or_u64_nat cw _ hcwB (Nat.mod_lt _ (by decide)), hsm, or_low hcwS, Nat.add_comm]
      obtain ⟨i1, hi1⟩ : ∃ i1, i + 1 = i1 := ⟨_, rfl⟩
      have hi1I : (i : Int) + 1 = (i1 : Int) := by omega
      have hi1c : (i1 : Int) < (cc : Int) := by have := HCC.out; omega
      obtain ⟨h, hh⟩ : ∃ h, x / 2 ^ t1 = h := ⟨_, rfl⟩
      have hhI : (x : Int) / 2 ^ t1 = (h : Int) := by rw [← hh]; simp
      obtain ⟨s, hs⟩ : ∃ s, x * 2 ^ t % 18446744073709551616 = s := ⟨_, rfl⟩
      have hsh := wrap_mul x t
      obtain ⟨q, hq⟩ : ∃ q, s + cw = q := ⟨_, rfl⟩
      rw [hs] at hsh hor u1 u3
      rw [hq] at hor u1 u3
      rw [hh] at u2 u3
      obtain ⟨p1, hp1⟩ : ∃ p1, (L.set i q)[i1]? = some p1 := ⟨_, List.getElem?_eq_getElem (by rw [List.length_set, hR.out.2.2.1]; omega)⟩
      have HN := show Hid (AllW ((L.set i q).set i1 h) ∧ ((L.set i q).set i1 h).length = cc ∧ pv ((L.set i q).set i1 h) 0 (i1 + 1) = numW (A.take i1) * 2 ^ t ∧ ((L.set i q).set i1 h)[i1]? = some h ∧ h < 2 ^ t) from by
        have hhB : h < 18446744073709551616 := by
          have : 2 ^ t ≤ 2 ^ 64 := Nat.pow_le_pow_right (by decide) (by omega)
          omega
        refine ⟨(hR.out.2.1.set _ u1).set _ hhB, by rw [List.length_set, List.length_set, hR.out.2.2.1], ?_, ?_, u2⟩
        · rw [← hi1, HX.out]
          exact up_row hcw (by rw [hi1]; exact hp1) hpv u3
        · rw [List.getElem?_set_self (by rw [List.length_set, hR.out.2.2.1]; omega)]
      clear hx hs hq hh hE HX hsm hcwB u1 u2 u3 hpv
      obtain ⟨w0, hw0⟩ : ∃ w0, w0 = wr := ⟨_, rfl⟩
      subst hw0
      go_wp2_with fail
      refine semSuR x t cw s q i g cc L rfl rfl rfl rfl rfl hic ht64 hsh (hR.out.1.later ((Below.refl _ _).drew)) hcw hor ?_
      intro vs u hS hgr hZ
      unfold semSuO
      simp only [putFrom, Act.put, List.setIfInBounds_toArray, List.set_cons_succ, List.set_cons_zero, Nat.reduceAdd]
      clear hS
      generalize vs 0 = qq0
      generalize vs 1 = qq1
      generalize vs 2 = qq2
      generalize vs 3 = qq3
      generalize vs 4 = qq4
      generalize vs 5 = qq5
      generalize vs 6 = qq6
      generalize vs 7 = qq7
      generalize vs 8 = qq8
      have HRu := show Hid (RowN .u64 u g (L.set i q) ∧ Below w.heap.size w u) from by
        obtain ⟨_, h1, _⟩ := hZ
        exact ⟨h1, (hR.out.2.2.2.drew).grown hgr hR.out.2.2.2.drew.size (fun b hb => by obtain rfl : g = b := Option.some.inj hb; rw [HG.out]; exact Nat.le_refl _)⟩
      have gp1 := HRu.out.1.cell hp1
      have gf1 := HRu.out.1.free i1
      have HRv := show Hid (RowN .u64 (u.setCell ⟨g, i1, none⟩ (.int .u64 (h : Int))) g ((L.set i q).set i1 h) ∧ Below w.heap.size w (u.setCell ⟨g, i1, none⟩ (.int .u64 (h : Int)))) from ⟨HRu.out.1.set hp1 h, HRu.out.2.grown (grown_cell u ⟨g, i1, none⟩ _) HRu.out.2.size (fun b hb => by obtain rfl : g = b := Option.some.inj hb; rw [HG.out]; exact Nat.le_refl _)⟩
      clear hZ hgr hsh hor hcw hp1 hR
      go_wp2_with fail
      go_roundw
      case rel => exact ⟨i1, (L.set i q).set i1 h, by omega, by go_num, ⟨HRv.out.1, HN.out.1, HN.out.2.1, HRv.out.2⟩, HN.out.2.2.1, h, HN.out.2.2.2.1, HN.out.2.2.2.2⟩
      case measure => simp [intOf]; omega
    · have hin2 : ¬ (i : Int) < (na : Int) := by omega
      obtain rfl : i = na := by omega
      have HF := show Hid (numW L = numW A * 2 ^ t) from by
        have h1 := hE.out.1
        rw [List.take_of_length_le (by rw [HIA.out.2]; exact Nat.le_refl _), HCC.out, pv_full hR.out.2.2.1] at h1
        exact h1
      go_wp2_with fail
      go_ret
      have hgg := HG.out
      subst hgg
      exact ⟨⟨rfl, L, hR.out.1, hR.out.2.1, hR.out.2.2.1, HF.out⟩, hR.out.2.2.2⟩
set_option maxHeartbeats 4000000 in
theorem nShiftDown_any (y : Option Addr) (c t : Nat) (A : List Nat) (w : World) (hI : IsN .u64 w (.slice y A.length c) A) (hA : AllW A) (hl : A.length ≤ 50000) (ht : t < 64) :
    Calls Tryd.prog 69 #[.slice y A.length c, .int .i64 (t : Int)] w fun e w' => (e = .returned (.slice (some ⟨w.heap.size, 0, none⟩) A.length A.length) ∧ ∃ L, RowN .u64 w' w.heap.size L ∧ AllW L ∧ L.length = A.length ∧ numW L = numW A / 2 ^ t) ∧ Below w.heap.size w w' := by
  obtain ⟨na, hna⟩ : ∃ na, A.length = na := ⟨_, rfl⟩
  have HIA := show Hid (IsN .u64 w (.slice y na c) A ∧ A.length = na) from ⟨by rw [← hna]; exact hI, hna⟩
  rw [hna]
  rw [hna] at hl
  clear hI hna
  obtain ⟨t1, ht1⟩ : ∃ t1, 64 - t = t1 := ⟨_, rfl⟩
  have ht1I : (64 : Int) - (t : Int) = (t1 : Int) := by omega
  have HT1 := show Hid (2 ^ t * 2 ^ t1 = 18446744073709551616) from by unfold Hid; rw [← ht1]; exact pow_halves (by omega)
  have ht1w : IntKind.i64.wrap (t1 : Int) = (t1 : Int) := by rw [IntKind.wrap_i64]; omega
  have ht64 : (t : Int) ≤ 64 := by omega
  clear ht1
  go_enter Tryd.func69, Tryd.ntmps69
  go_wp2_with (at_make; go_must (refine wpList_make_n RW w rfl _ _ rfl .i64 .i64 _ _ na rfl rfl rfl rfl (by omega) ?_; intro w1 ho1 hb1))
  obtain ⟨hR1, _⟩ := RowN.own ho1
  obtain ⟨g, hg⟩ : ∃ g, w.heap.size = g := ⟨_, rfl⟩
  have HG := show Hid (w.heap.size = g) from hg
  have HR1 := show Hid (RowN .u64 w1 g (List.replicate na 0) ∧ Below w.heap.size w w1) from ⟨by rw [← hg]; exact hR1, hb1⟩
  rw [hg]
  clear ho1 hb1 hR1 hg
  go_loopw [13] (fun p wr => ∃ (i : Nat) (L : List Nat), i ≤ na ∧ p = .int .i64 (i : Int) ∧ Hid (RowN .u64 wr g L ∧ AllW L ∧ L.length = na ∧ Below w.heap.size w wr) ∧ Hid (pv L 0 i = numW (A.take i) / 2 ^ t ∧ ∀ k, i = k + 1 → ∃ p, L[k]? = some p ∧ p < 2 ^ t1)) (fun p _ => na - (intOf p).toNat)
  case atStart =>
    refine ⟨0, List.replicate na 0, by omega, rfl, ⟨HR1.out.1, allW_zero _, by simp, HR1.out.2⟩, ?_, fun k hk => by omega⟩
    rw [pv_zero]
    simp [numW]
  case round =>
    obtain ⟨i, L, hi, rfl, hR, hE⟩ := hrel
    by_cases hin : i < na
    · have hin2 : (i : Int) < (na : Int) := by omega
      obtain ⟨x, hx⟩ : ∃ x, A[i]? = some x := ⟨_, List.getElem?_eq_getElem (by rw [HIA.out.2]; exact hin)⟩
      obtain ⟨hmv, ba, oa, rfl, _, gx⟩ := IsN.cellAt (HIA.out.1.later hR.out.2.2.2) hx
      clear hmv
      have hxB := hA.at hx
      have HX := show Hid (numW (A.take (i + 1)) = numW (A.take i) + 18446744073709551616 ^ i * x) from numW_take hx
      obtain ⟨d1, d2, d3⟩ := down_place HT1.out hxB
      obtain ⟨h, hh⟩ : ∃ h, x / 2 ^ t = h := ⟨_, rfl⟩
      have hhI : (x : Int) / 2 ^ t = (h : Int) := by rw [← hh]; simp
      have hhB : h < 18446744073709551616 := by rw [← hh]; exact Nat.lt_of_le_of_lt (Nat.div_le_self _ _) hxB
      have hhS : h < 2 ^ t1 := by rw [← hh]; exact d2
      obtain ⟨p0, hp0⟩ : ∃ p0, L[i]? = some p0 := ⟨_, List.getElem?_eq_getElem (by rw [hR.out.2.2.1]; exact hin)⟩
      have gp0 := hR.out.1.cell hp0
      have gf0 := hR.out.1.free i
      have HR2 := show Hid (RowN .u64 (wr.setCell ⟨g, i, none⟩ (.int .u64 (h : Int))) g (L.set i h) ∧ AllW (L.set i h) ∧ (L.set i h).length = na ∧ Below w.heap.size w (wr.setCell ⟨g, i, none⟩ (.int .u64 (h : Int)))) from ⟨hR.out.1.set hp0 h, hR.out.2.1.set _ hhB, by rw [List.length_set]; exact hR.out.2.2.1, hR.out.2.2.2.grown (grown_cell wr ⟨g, i, none⟩ _) hR.out.2.2.2.size (fun b hb => by obtain rfl : g = b := Option.some.inj hb; rw [HG.out]; exact Nat.le_refl _)⟩
      by_cases hi00 : i = 0
      · have HN := show Hid (pv (L.set i h) 0 (i + 1) = numW (A.take (i + 1)) / 2 ^ t ∧ (L.set i h)[i]? = some h) from by
          refine ⟨?_, by rw [List.getElem?_set_self (by rw [hR.out.2.2.1]; exact hin)]⟩
          have e1 := pv_put (L := L) (o := 0) (i := i) (p := p0) (p' := h) (by rw [Nat.zero_add]; exact hp0)
          rw [Nat.zero_add] at e1
          rw [e1, HX.out, hi00, pv_zero, ← hh]
          simp [numW]
        have h00 : ¬ (0 : Int) < (i : Int) := by omega
        clear hx hh hE HX d1 d2 d3 hp0 hR hi00
        go_wp2_with fail
        go_roundw
        case rel => exact ⟨i + 1, L.set i h, by omega, by go_num, HR2.out, HN.out.1, fun k hk => ⟨h, by obtain rfl : i = k := (by omega); exact HN.out.2, hhS⟩⟩
        case measure => simp [intOf]; omega
      · obtain ⟨k, hik⟩ : ∃ k, k + 1 = i := ⟨i - 1, by omega⟩
        have hi0 : (0 : Int) < (i : Int) := by omega
        have hkI : (i : Int) - 1 = (k : Int) := by omega
        have hkn : (k : Int) < (na : Int) := by omega
        have hkw : IntKind.i64.wrap (k : Int) = (k : Int) := by rw [IntKind.wrap_i64]; omega
        obtain ⟨p, hp, hpS⟩ := hE.out.2 k hik.symm
        have hpB : p < 18446744073709551616 := hR.out.2.1.at hp
        obtain ⟨s, hs⟩ : ∃ s, x * 2 ^ t1 % 18446744073709551616 = s := ⟨_, rfl⟩
        have hsh := wrap_mul x t1
        rw [hs] at hsh d1
        have hsB : s < 18446744073709551616 := by rw [← hs]; exact Nat.mod_lt _ (by decide)
        have hor : bits .or .u64 (p : Int) (s : Int) = ((p + s : Nat) : Int) := by
          rw [bits_or_u64_nat p s hpB hsB, d1, or_low hpS]
        have hpk : (L.set i h)[k]? = some p := by rw [List.getElem?_set_ne (by omega)]; exact hp
        obtain ⟨q, hq⟩ : ∃ q, p + s = q := ⟨_, rfl⟩
        rw [hq] at hor
        have hqB : q < 18446744073709551616 := by
          rw [← hq, d1]
          have h1 : x % 2 ^ t + 1 ≤ 2 ^ t := Nat.mod_lt _ (Nat.pow_pos (by decide))
          have h2 : (x % 2 ^ t + 1) * 2 ^ t1 ≤ 2 ^ t * 2 ^ t1 := Nat.mul_le_mul_right _ h1
          rw [HT1.out, Nat.add_mul, Nat.one_mul] at h2
          omega
        have HN := show Hid (AllW ((L.set i h).set k q) ∧ ((L.set i h).set k q).length = na ∧ pv ((L.set i h).set k q) 0 (i + 1) = numW (A.take (i + 1)) / 2 ^ t ∧ ((L.set i h).set k q)[i]? = some h) from by
          refine ⟨HR2.out.2.1.set _ hqB, by rw [List.length_set]; exact HR2.out.2.2.1, ?_, ?_⟩
          · rw [HX.out, ← hik, ← hq]
            exact down_row HT1.out hp (by rw [hik]; exact hp0) (by rw [hik]; exact hE.out.1) hh.symm d1
          · rw [List.getElem?_set_ne (by omega), List.getElem?_set_self (by rw [hR.out.2.2.1]; exact hin)]
        clear hx hh hE HX d1 d2 d3 hp0 hR hs hq hp hpB hi00 hik
        go_wp2_with fail
        refine semSdR x t t1 p s q i k g na (L.set i h) rfl rfl rfl rfl rfl hkn hkI hkw ht1I ht1w hsh (HR2.out.1.later ((Below.refl _ _).drew)) hpk hor ?_
        intro vs u hS hgr hZ
        unfold semSdO
        simp only [putFrom, Act.put, List.setIfInBounds_toArray, List.set_cons_succ, List.set_cons_zero, Nat.reduceAdd]
        clear hS
        generalize vs 0 = qq0
        generalize vs 1 = qq1
        generalize vs 2 = qq2
        generalize vs 3 = qq3
        generalize vs 4 = qq4
        generalize vs 5 = qq5
        generalize vs 6 = qq6
        generalize vs 7 = qq7
        generalize vs 8 = qq8
        generalize vs 9 = qq9
        generalize vs 10 = qq10
        have HRu := show Hid (RowN .u64 u g ((L.set i h).set k q) ∧ Below w.heap.size w u) from by
          obtain ⟨_, h1, _⟩ := hZ
          exact ⟨h1, (HR2.out.2.2.2.drew).grown hgr HR2.out.2.2.2.drew.size (fun b hb => by obtain rfl : g = b := Option.some.inj hb; rw [HG.out]; exact Nat.le_refl _)⟩
        clear hZ hgr hsh hor hpk
        go_wp2_with fail
        go_roundw
        case rel => exact ⟨i + 1, (L.set i h).set k q, by omega, by go_num, ⟨HRu.out.1, HN.out.1, HN.out.2.1, HRu.out.2⟩, HN.out.2.2.1, fun k' hk' => ⟨h, by obtain rfl : i = k' := (by omega); exact HN.out.2.2.2, hhS⟩⟩
        case measure => simp [intOf]; omega
    · have hin2 : ¬ (i : Int) < (na : Int) := by omega
      obtain rfl : i = na := by omega
      have HF := show Hid (numW L = numW A / 2 ^ t) from by
        have h1 := hE.out.1
        rw [List.take_of_length_le (by rw [HIA.out.2]; exact Nat.le_refl _), pv_full hR.out.2.2.1] at h1
        exact h1
      go_wp2_with fail
      go_ret
      have hgg := HG.out
      subst hgg
      exact ⟨⟨rfl, L, hR.out.1, hR.out.2.1, hR.out.2.2.1, HF.out⟩, hR.out.2.2.2⟩
end Go.Proofs.YtpcmpeeflnlkpaaDoor
