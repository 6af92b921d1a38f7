
/-
  The document's Exp and Gcd.
-/
import Derived.Test.YtpcmpeeflnlkpaaGreatDoorNRDiv
import Derived.Test.YtpcmpeeflnlkpaaGreatDoorNExpEtc
namespace Go.Proofs.YtpcmpeeflnlkpaaGreatDoor
open Go.RowKit Ch
set_option maxRecDepth 100000

theorem isD_one (w : World) : IsD 1 (w.alloc (.cells #[.int .i64 1] 3)) (.slice (some ⟨w.heap.size, 0, none⟩) 1 1) 1 :=
  ⟨some ⟨w.heap.size, 0, none⟩, 1, [1], rfl, own_n (own_oneN RI w 1), by intro z hz; simp at hz; omega, rfl, rfl, by simp⟩
theorem half_digit {d k : Nat} : d / 2 ^ k = 2 * (d / 2 ^ (k + 1)) + d / 2 ^ k % 2 := by
  rw [Nat.pow_succ, ← Nat.div_div_eq_div_mul]
  omega
set_option maxHeartbeats 8000000 in
theorem digExp (na ne nm : Nat) (va ve vm : Value) (A E M : Nat) (w : World) (ha : IsD na w va A) (he : IsD ne w ve E) (hm : IsD nm w vm M) (hna : na ≤ 1000) (hne : ne ≤ 1000) (hnm : nm ≤ 1000) (hM : M ≠ 0) :
    Calls Tryz.prog 30 #[va, ve, vm] w fun e w' => (∃ x, e = .returned x ∧ IsD nm w' x (A ^ E % M)) ∧ Below w.heap.size w w' := by
  obtain ⟨ye, ce, L, rfl, h2, h3, _, rfl, h6⟩ := he
  obtain ⟨n, hn⟩ : ∃ n, L.length = n := ⟨_, rfl⟩
  have HL := show Hid (IsN .i64 w (.slice ye n ce) L ∧ AllD L ∧ L.length = n) from ⟨by rw [← hn]; exact h2, h3, hn⟩
  rw [hn] at h6 ⊢
  have HA := show Hid (IsD na w va A ∧ IsD nm w vm M) from ⟨ha, hm⟩
  obtain ⟨ya, la, ca, rfl, _, _⟩ := id ha.shape
  obtain ⟨ym, lm, cm, rfl, _, _⟩ := id hm.shape
  have hn1 : n ≤ 1000 := by omega
  have wn1 : IntKind.i64.wrap ((n : Int) - 1) = (n : Int) - 1 := by rw [IntKind.wrap_i64]; omega
  have hD1 := digDiv na nm (.slice ya la ca) (.slice ym lm cm) A M w ha hm (by omega) (by omega) hM
  clear h2 h3 hn ha hm h6
  go_enter Tryz.func30, Tryz.ntmps30
  go_wp2_with fail
  refine hD1.mono ?_
  rintro e w1 ⟨v1, v2, rfl, _, hx, hb1⟩
  clear hD1
  have hal : Below w1.heap.size w1 (w1.alloc (.cells #[.int .i64 1] 3)) := (Below.refl _ w1).alloc (Nat.le_refl _) _
  have hb1a := hb1.trans (hal.mono hb1.size)
  have hD2 := digDiv 1 nm (.slice (some ⟨w1.heap.size, 0, none⟩) 1 1) (.slice ym lm cm) 1 M _ (isD_one w1) (HA.out.2.later hb1a) (by omega) (by omega) hM
  go_wp2_with fail
  refine hD2.mono ?_
  rintro e w2 ⟨v3, v4, rfl, _, ho, hb2⟩
  clear hD2
  have HX := show Hid (IsD nm w2 v2 (A % M) ∧ IsD nm w2 v4 (1 % M) ∧ Below w.heap.size w w2) from ⟨(hx.later hal).later hb2, ho, hb1a.trans (hb2.mono hb1a.size)⟩
  clear hx ho hb1 hal hb1a hb2
  go_wp2_with fail
  go_loopw [10, 11] (fun o t wr => ∃ j : Nat, j ≤ n ∧ t = .int .i64 ((j : Int) - 1) ∧ Hid (IsD nm wr o (A ^ numD (L.drop j) % M)) ∧ Hid (Below w2.heap.size w2 wr)) (fun _ t _ => (intOf t + 1).toNat)
  case atStart => exact ⟨n, Nat.le_refl _, rfl, by unfold Hid; rw [List.drop_of_length_le (by rw [HL.out.2.2]; exact Nat.le_refl _)]; exact HX.out.2.1, Below.refl _ _⟩
  case round =>
    obtain ⟨j, hj, rfl, ho, hb⟩ := hrel
    rcases j with _ | k
    · have hge : ¬ (0 : Int) ≤ ((0 : Nat) : Int) - 1 := by omega
      have HF := show Hid (IsD nm wr u10 (A ^ numD L % M) ∧ Below w.heap.size w wr) from ⟨by have := ho.out; rwa [List.drop_zero] at this, HX.out.2.2.trans (hb.out.mono HX.out.2.2.size)⟩
      clear ho hb
      go_wp2_with fail
      go_ret
      exact ⟨⟨_, rfl, HF.out.1⟩, HF.out.2⟩
    · have e1 : ((k + 1 : Nat) : Int) - 1 = (k : Int) := by omega
      rw [e1]
      have hge : (0 : Int) ≤ (k : Int) := by omega
      have hkn : (k : Int) < (n : Int) := by omega
      have wk : IntKind.i64.wrap ((k : Int) - 1) = (k : Int) - 1 := by rw [IntKind.wrap_i64]; omega
      have hdL : L[k]? = some (atN L k) := atN_some (by have := HL.out.2.2; omega)
      obtain ⟨d, hd⟩ : ∃ x, atN L k = x := ⟨_, rfl⟩
      rw [hd] at hdL
      have hd8 : d < 256 := HL.out.2.1.at hdL
      obtain ⟨x1, b, o, rfl, hbl, gc⟩ := IsN.cellAt HL.out.1 hdL
      have HGC := show Hid (b < w.heap.size ∧ w.cell? ⟨b, o + k, none⟩ = some (.int .i64 (d : Int))) from ⟨hbl, gc⟩
      obtain ⟨X, hX⟩ : ∃ X, numD (L.drop (k + 1)) = X := ⟨_, rfl⟩
      have HTL := show Hid (numD (L.drop k) = X * 256 + d) from by
        unfold Hid
        rw [drop_numD hdL, hX]
        omega
      rw [hX] at ho
      obtain ⟨wo, hwo⟩ : ∃ a, a = wr := ⟨_, rfl⟩
      subst hwo
      clear x1 hd hdL hbl gc hX e1
      go_wp2_with fail
      go_loopw [10, 12] (fun o p wi => ∃ k2 pp : Nat, k2 ≤ 8 ∧ p = .int .i64 (pp : Int) ∧ pp ≤ 128 ∧ Hid (pp = 2 ^ k2 / 2) ∧ Hid (IsD nm wi o (A ^ (X * 2 ^ (8 - k2) + d / 2 ^ k2) % M)) ∧ Hid (Below w2.heap.size w2 wi)) (fun _ p _ => (intOf p).toNat)
      case atStart => exact ⟨8, 128, by omega, rfl, by omega, rfl, by unfold Hid; rw [Nat.sub_self, Nat.pow_zero, Nat.mul_one, Nat.div_eq_of_lt (show d < 2 ^ 8 from hd8), Nat.add_zero]; exact ho.out, hb.out⟩
      case round =>
        obtain ⟨k2, pp, hk2, rfl, hpp8, hpp, hoi, hbi⟩ := hrel
        rcases k2 with _ | k3
        · obtain rfl : pp = 0 := by rw [hpp.out]
          have hlt : ¬ (1 : Int) ≤ ((0 : Nat) : Int) := by omega
          have HF := show Hid (IsD nm wr u10 (A ^ numD (L.drop k) % M) ∧ Below w2.heap.size w2 wr) from ⟨by
            rw [HTL.out]
            have h1 := hoi.out
            rw [Nat.sub_zero, Nat.pow_zero, Nat.div_one] at h1
            exact h1, hbi.out⟩
          clear hoi hbi hpp
          go_wp2_with fail
          go_roundw
          case rel => exact ⟨k, by omega, rfl, HF.out.1, HF.out.2⟩
          case measure => simp [intOf]
        · have hpp1 : pp = 2 ^ k3 := by rw [hpp.out, Nat.pow_succ]; omega
          have hpos : 0 < 2 ^ k3 := Nat.pow_pos (by decide)
          have hge1 : (1 : Int) ≤ (pp : Int) := by omega
          obtain ⟨p2, hp2⟩ : ∃ a, pp / 2 = a := ⟨_, rfl⟩
          have hp2I : (pp : Int).tdiv 2 = (p2 : Int) := by rw [Int.tdiv_eq_ediv_of_nonneg (by omega)]; omega
          have wp2 : IntKind.i64.wrap (p2 : Int) = (p2 : Int) := by rw [IntKind.wrap_i64]; omega
          have HP2 := show Hid (p2 = 2 ^ k3 / 2) from by unfold Hid; rw [← hp2, hpp1]
          have hp2lt : p2 < pp := by omega
          have hppz : ((pp : Int) == 0) = false := by simp; omega
          obtain ⟨q, hq⟩ : ∃ q, d / pp = q := ⟨_, rfl⟩
          have hql : q < 256 := by rw [← hq]; exact Nat.lt_of_le_of_lt (Nat.div_le_self _ _) hd8
          have hqI : (d : Int).tdiv (pp : Int) = (q : Int) := by
            rw [← hq, Int.tdiv_eq_ediv_of_nonneg (by omega)]
            simp
          have wq : IntKind.i64.wrap (q : Int) = (q : Int) := by rw [IntKind.wrap_i64]; omega
          obtain ⟨bt, hbt⟩ : ∃ q2, q % 2 = q2 := ⟨_, rfl⟩
          have hbtI : (q : Int).tmod 2 = (bt : Int) := by rw [Int.tmod_eq_emod_of_nonneg (by omega)]; omega
          have wbt : IntKind.i64.wrap (bt : Int) = (bt : Int) := by rw [IntKind.wrap_i64]; omega
          have HEX := show Hid (X * 2 ^ (8 - k3) + d / 2 ^ k3 = 2 * (X * 2 ^ (8 - (k3 + 1)) + d / 2 ^ (k3 + 1)) + bt) from by
            unfold Hid
            have h1 := half_digit (d := d) (k := k3)
            rw [← hpp1, hq, hbt] at h1
            rw [← hpp1, hq, show 8 - k3 = 8 - (k3 + 1) + 1 by omega, Nat.pow_succ, ← Nat.mul_assoc]
            omega
          clear hpp1 hpos hp2 hq hpp
          obtain ⟨y9, l9, c9, rfl, _, _⟩ := id hoi.out.shape
          have hMu := digMul nm nm (.slice y9 l9 c9) (.slice y9 l9 c9) _ _ wr hoi.out hoi.out (by omega) (by omega)
          go_wp2_with fail
          refine hMu.mono ?_
          rintro e w3 ⟨⟨v5, rfl, h5⟩, hb3⟩
          clear hMu
          have hbw3 : Below w.heap.size w w3 := HX.out.2.2.trans ((hbi.out.trans (hb3.mono hbi.out.size)).mono HX.out.2.2.size)
          have hDv := digDiv (nm + nm) nm v5 (.slice ym lm cm) _ M w3 h5 (HA.out.2.later hbw3) (by omega) (by omega) hM
          go_wp2_with fail
          refine hDv.mono ?_
          rintro e w4 ⟨v6, v7, rfl, _, h7, hb4⟩
          clear hDv
          rw [pow_sq] at h7
          have hb24 : Below w2.heap.size w2 w4 := hbi.out.trans ((hb3.trans (hb4.mono hb3.size)).mono hbi.out.size)
          have gD := ((hbw3.trans (hb4.mono hbw3.size)).cell (p := ⟨b, o + k, none⟩) HGC.out.1).trans HGC.out.2
          have hbt2 : bt = 1 ∨ bt = 0 := by omega
          rcases hbt2 with h1 | h1
          · subst h1
            have hMu2 := digMul nm nm v7 v2 _ _ w4 h7 (HX.out.1.later hb24) (by omega) (by omega)
            clear hbt hoi h5 hb3 hb4 hbw3 hbi
            go_wp2_with fail
            refine hMu2.mono ?_
            rintro e w5 ⟨⟨v8, rfl, h8⟩, hb5⟩
            clear hMu2 gD
            have hb25 := hb24.trans (hb5.mono hb24.size)
            have hDv := digDiv (nm + nm) nm v8 (.slice ym lm cm) _ M w5 h8 (HA.out.2.later (HX.out.2.2.trans (hb25.mono HX.out.2.2.size))) (by omega) (by omega) hM
            go_wp2_with fail
            refine hDv.mono ?_
            rintro e w6 ⟨v9, v10, rfl, _, h10, hb6⟩
            clear hDv
            rw [pow_more, ← HEX.out] at h10
            have HF := show Hid (IsD nm w6 v10 (A ^ (X * 2 ^ (8 - k3) + d / 2 ^ k3) % M) ∧ Below w2.heap.size w2 w6) from ⟨h10, hb25.trans (hb6.mono hb25.size)⟩
            clear h7 h8 h10 hb24 hb5 hb25 hb6
            go_wp2_with fail
            go_roundw
            case rel => exact ⟨k3, p2, by omega, rfl, by omega, HP2.out, HF.out.1, HF.out.2⟩
            case measure => simp [intOf]; omega
          · subst h1
            have HF := show Hid (IsD nm w4 v7 (A ^ (X * 2 ^ (8 - k3) + d / 2 ^ k3) % M) ∧ Below w2.heap.size w2 w4) from ⟨by rw [HEX.out, Nat.add_zero]; exact h7, hb24⟩
            clear hbt hoi h5 hb3 hb4 hbw3 hbi h7 hb24
            go_wp2_with fail
            go_roundw
            case rel => exact ⟨k3, p2, by omega, rfl, by omega, HP2.out, HF.out.1, HF.out.2⟩
            case measure => simp [intOf]; omega
end Go.Proofs.YtpcmpeeflnlkpaaGreatDoor
