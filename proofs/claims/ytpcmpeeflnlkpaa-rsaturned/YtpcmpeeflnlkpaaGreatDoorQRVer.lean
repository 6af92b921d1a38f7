
/-
  The document's Size and Verify.
-/
import Derived.Test.YtpcmpeeflnlkpaaGreatDoorQRSeal
import Derived.Test.YtpcmpeeflnlkpaaGreatDoorQRSizeEtc
import Derived.Test.YtpcmpeeflnlkpaaGreatDoorNRExp
namespace Go.Proofs.YtpcmpeeflnlkpaaGreatDoor
open Go.RowKit Ch
set_option maxRecDepth 100000

set_option maxHeartbeats 8000000 in
theorem qrVerify_any (v1 v2 v3 vb vs : Value) (N E D b S : List UInt8) (w : World) (h1 : IsBytes w v1 ⟨N.toArray⟩) (h2 : IsBytes w v2 ⟨E.toArray⟩) (h3 : IsBytes w v3 ⟨D.toArray⟩) (h4 : IsBytes w vb ⟨b.toArray⟩) (h5 : IsBytes w vs ⟨S.toArray⟩)
    (lN : N.length ≤ 1000) (lE : E.length ≤ 1000) (lD : D.length ≤ 1000) (lb : b.length ≤ 100000) (lS : S.length ≤ 1000) :
    Calls Tryz.prog 12 #[.agg #[v1, v2, v3], vb, vs] w fun e w' => e = .returned (.int .i64 (verL N E D b S)) ∧ Below w.heap.size w w' := by
  obtain ⟨y1, k1, c1, rfl⟩ := isb_open h1
  obtain ⟨y2, k2, c2, rfl⟩ := isb_open h2
  obtain ⟨y3, k3, c3, rfl⟩ := isb_open h3
  obtain ⟨y4, k4, c4, rfl⟩ := isb_open h4
  obtain ⟨y5, c5, rfl⟩ := isb_shape h5
  obtain ⟨k5, hk5⟩ : ∃ k, S.length = k := ⟨_, rfl⟩
  rw [hk5] at h5 ⊢
  have kb := keyBox w (.slice y1 k1 c1) (.slice y2 k2 c2) (.slice y3 k3 c3)
  obtain ⟨q, hq⟩ : ∃ q, w.heap.size = q := ⟨_, rfl⟩
  obtain ⟨W1, hW1⟩ : ∃ W, w.alloc (.cells #[.slice y1 k1 c1, .slice y2 k2 c2, .slice y3 k3 c3] 25) = W := ⟨_, rfl⟩
  rw [hW1, hq] at kb
  have hRt := rrRightV (.slice y1 k1 c1) (.slice y2 k2 c2) (.slice y3 k3 c3) N E D W1 (h1.later kb.below) (h2.later kb.below) (h3.later kb.below) (by omega) (by omega) (by omega)
  have HU := show Hid (∀ u, Below W1.heap.size W1 u → u.cell? ⟨q, 0, none⟩ = some (.slice y1 k1 c1) ∧ u.cell? ⟨q, 1, none⟩ = some (.slice y2 k2 c2) ∧ u.cell? ⟨q, 2, none⟩ = some (.slice y3 k3 c3) ∧ IsBytes u (.slice y1 k1 c1) ⟨N.toArray⟩ ∧ IsBytes u (.slice y2 k2 c2) ⟨E.toArray⟩ ∧ IsBytes u (.slice y3 k3 c3) ⟨D.toArray⟩ ∧ IsBytes u (.slice y4 k4 c4) ⟨b.toArray⟩ ∧ IsBytes u (.slice y5 k5 c5) ⟨S.toArray⟩ ∧ Below w.heap.size w u) from fun u hu => by
    obtain ⟨x, y, z⟩ := kb.cells hu
    have hb := bl2 kb.below hu
    exact ⟨x, y, z, h1.later hb, h2.later hb, h3.later hb, h4.later hb, h5.later hb, hb⟩
  have HL := show Hid (N.length ≤ 1000 ∧ E.length ≤ 1000 ∧ D.length ≤ 1000 ∧ b.length ≤ 100000 ∧ S.length ≤ 1000 ∧ S.length = k5) from ⟨lN, lE, lD, lb, lS, hk5⟩
  obtain ⟨R, hR⟩ : ∃ R, Hid (verL N E D b S = R) := ⟨_, rfl⟩
  rw [hR.out]
  obtain ⟨g0, g1, g2⟩ := kb.cells (Below.refl _ W1)
  clear kb h1 h2 h3 h4 h5 lN lE lD lb lS hk5
  by_cases cp : rightP N E D
  · rw [decide_eq_true cp] at hRt
    obtain ⟨ka, hka⟩ : ∃ k, (bareL N).length = k := ⟨_, rfl⟩
    have HP := show Hid (rightP N E D ∧ (bareL N).length = ka ∧ 62 ≤ ka ∧ ka ≤ 512 ∧ numB N ≠ 0) from by
      have h9 := cp.1
      have h8 := (right_len cp).2.2
      rw [numB_bare] at h8
      exact ⟨cp, hka, by omega, by omega, h8⟩
    clear cp hka
    go_enter Tryz.func12, Tryz.ntmps12
    go_wp2_with fail
    refine hRt.mono ?_
    rintro e w2 ⟨rfl, b2⟩
    clear hRt g0 g1 g2
    obtain ⟨g0, g1, g2, i1, i2, i3, i4, i5, _⟩ := HU.out w2 b2
    have hSz := qrSize_any (.slice y1 k1 c1) (.slice y2 k2 c2) (.slice y3 k3 c3) N E D w2 i1 i2 i3 (by have := HL.out; omega)
    rw [HP.out.2.1] at hSz
    have HB2 := show Hid (Below W1.heap.size W1 w2) from b2
    clear b2 i1 i2 i3 i4 i5
    go_wp2_with fail
    refine hSz.mono ?_
    rintro e w3 ⟨rfl, b3⟩
    clear hSz g0 g1 g2
    obtain ⟨g0, g1, g2, i1, _⟩ := HU.out w3 (bl2 HB2.out b3)
    have HB3 := show Hid (Below W1.heap.size W1 w3) from bl2 HB2.out b3
    by_cases cl : k5 = ka
    · subst cl
      have hO := digOfV N (.slice y1 k1 c1) w3 i1 (by have := HL.out; omega)
      clear b3 i1
      go_wp2_with fail
      refine hO.mono ?_
      rintro e w4 ⟨⟨ya, la, ca, rfl, d4, hl4⟩, b4⟩
      obtain rfl : k5 = la := HP.out.2.1.symm.trans hl4
      clear hO g0 g1 g2
      have hO := digOfV S (.slice y5 k5 c5) w4 (HU.out w4 (bl2 HB3.out b4)).2.2.2.2.2.2.2.1 (by have := HL.out; omega)
      have H4 := show Hid (IsD N.length w4 (.slice ya k5 ca) (numB N) ∧ Below W1.heap.size W1 w4) from ⟨d4, bl2 HB3.out b4⟩
      clear d4 b4 hl4
      go_wp2_with fail
      refine hO.mono ?_
      rintro e w5 ⟨⟨yb, lb, cb, rfl, d5, _⟩, b5⟩
      have hC := digCmp _ _ (.slice yb lb cb) (.slice ya k5 ca) (numB S) (numB N) w5 d5 (H4.out.1.later b5) (by have := HL.out; omega)
      have H5 := show Hid (IsD S.length w5 (.slice yb lb cb) (numB S) ∧ IsD N.length w5 (.slice ya k5 ca) (numB N) ∧ Below W1.heap.size W1 w5) from ⟨d5, H4.out.1.later b5, bl2 H4.out.2 b5⟩
      clear hO d5 b5
      have HV := show Hid (verL N E D b S = if numB S < numB N ∧ numB S ^ numB E % numB N = numB (sealL b k5) then 0 else 22) from by
        unfold Hid verL
        rw [if_pos HP.out.1, if_pos (HL.out.2.2.2.2.2.trans HP.out.2.1.symm), HP.out.2.1]
      have hcl := cmpN_lt (numB S) (numB N)
      obtain ⟨cq, hcq⟩ : ∃ c, cmpN (numB S) (numB N) = c := ⟨_, rfl⟩
      rw [hcq] at hC hcl
      clear hcq
      by_cases c1 : numB S < numB N
      · have q1 : cq < 0 := hcl.2 c1
        have HC1 := show Hid (numB S < numB N) from c1
        clear hcl c1
        go_wp2_with fail
        refine hC.mono ?_
        rintro e w6 ⟨rfl, b6⟩
        clear hC
        obtain ⟨g0, g1, g2, i1, i2, _⟩ := HU.out w6 (bl2 H5.out.2.2 b6)
        have hO := digOfV E (.slice y2 k2 c2) w6 i2 (by have := HL.out; omega)
        have H6 := show Hid (IsD S.length w6 (.slice yb lb cb) (numB S) ∧ IsD N.length w6 (.slice ya k5 ca) (numB N) ∧ Below W1.heap.size W1 w6) from ⟨H5.out.1.later b6, H5.out.2.1.later b6, bl2 H5.out.2.2 b6⟩
        clear b6 i1 i2
        go_wp2_with fail
        refine hO.mono ?_
        rintro e w7 ⟨⟨ye, le, ce, rfl, d7, _⟩, b7⟩
        have hX := digExp _ _ _ (.slice yb lb cb) (.slice ye le ce) (.slice ya k5 ca) (numB S) (numB E) (numB N) w7 (H6.out.1.later b7) d7 (H6.out.2.1.later b7) (by have := HL.out; omega) (by have := HL.out; omega) (by have := HL.out; omega) HP.out.2.2.2.2
        have H7 := show Hid (Below W1.heap.size W1 w7) from bl2 H6.out.2.2 b7
        clear hO d7 b7 g0 g1 g2
        go_wp2_with fail
        refine hX.mono ?_
        rintro e w8 ⟨⟨x8, rfl, d8⟩, b8⟩
        obtain ⟨yx, cx, LX, rfl, _⟩ := id d8
        obtain ⟨lx, hlx⟩ : ∃ k, LX.length = k := ⟨_, rfl⟩
        rw [hlx] at d8 ⊢
        have hb8 := bl2 H7.out b8
        have hSe := qrSeal_any (.slice y4 k4 c4) b k5 w8 (HU.out w8 hb8).2.2.2.2.2.2.1 (by have := HL.out; omega) HP.out.2.2.1 HP.out.2.2.2.1
        have H8 := show Hid (IsD N.length w8 (.slice yx lx cx) (numB S ^ numB E % numB N) ∧ Below W1.heap.size W1 w8) from ⟨d8, hb8⟩
        clear hX d8 b8 hb8 hlx
        go_wp2_with fail
        refine hSe.mono ?_
        rintro e w9 ⟨⟨x9, rfl, i9⟩, b9⟩
        obtain ⟨y9, k9, c9, rfl⟩ := isb_open i9
        have hO := digOfV (sealL b k5) (.slice y9 k9 c9) w9 i9 (by rw [sealL_length b (by have := HP.out; omega)]; have := HP.out; omega)
        have H9 := show Hid (IsD N.length w9 (.slice yx lx cx) (numB S ^ numB E % numB N) ∧ Below W1.heap.size W1 w9) from ⟨H8.out.1.later b9, bl2 H8.out.2 b9⟩
        clear hSe i9 b9
        go_wp2_with fail
        refine hO.mono ?_
        rintro e w10 ⟨⟨yt, lt, ct, rfl, d10, _⟩, b10⟩
        have hC := digCmp _ _ (.slice yx lx cx) (.slice yt lt ct) _ _ w10 (H9.out.1.later b10) d10 (by have := HL.out; omega)
        have H10 := show Hid (Below W1.heap.size W1 w10) from bl2 H9.out.2 b10
        clear hO d10 b10
        by_cases c2 : numB S ^ numB E % numB N = numB (sealL b k5)
        · have e0 : cmpN (numB S ^ numB E % numB N) (numB (sealL b k5)) = 0 := by unfold cmpN; rw [c2]; simp
          rw [e0] at hC
          have HRv := show Hid (0 = R) from by
            unfold Hid
            rw [← hR.out, HV.out, if_pos ⟨HC1.out, c2⟩]
          clear c2 e0
          go_wp2_with fail
          refine hC.mono ?_
          rintro e w11 ⟨rfl, b11⟩
          clear hC
          have HF := show Hid (Below w.heap.size w w11) from (HU.out w11 (bl2 H10.out b11)).2.2.2.2.2.2.2.2
          clear b11
          go_wp2_with fail
          go_ret
          exact ⟨by rw [← HRv.out] <;> rfl, HF.out⟩
        · have e0 : ∃ z : Int, cmpN (numB S ^ numB E % numB N) (numB (sealL b k5)) = z ∧ (z != 0) = true := by
            refine ⟨_, rfl, bne_iff_ne.2 ?_⟩
            unfold cmpN
            split
            · decide
            · split
              · decide
              · omega
          obtain ⟨z, e0, hz0⟩ := e0
          rw [e0] at hC
          have HRv := show Hid (22 = R) from by
            unfold Hid
            rw [← hR.out, HV.out, if_neg (fun h => c2 h.2)]
          clear c2 e0
          go_wp2_with fail
          refine hC.mono ?_
          rintro e w11 ⟨rfl, b11⟩
          clear hC
          have HF := show Hid (Below w.heap.size w w11) from (HU.out w11 (bl2 H10.out b11)).2.2.2.2.2.2.2.2
          clear b11
          go_wp2_with fail
          go_ret
          exact ⟨by rw [← HRv.out] <;> rfl, HF.out⟩
      · have q1 : ¬ cq < 0 := fun h => c1 (hcl.1 h)
        have q2 : 0 ≤ cq := by omega
        have HRv := show Hid (22 = R) from by
          unfold Hid
          rw [← hR.out, HV.out, if_neg (fun h => c1 h.1)]
        clear hcl c1
        go_wp2_with fail
        refine hC.mono ?_
        rintro e w6 ⟨rfl, b6⟩
        clear hC
        have HF := show Hid (Below w.heap.size w w6) from (HU.out w6 (bl2 H5.out.2.2 b6)).2.2.2.2.2.2.2.2
        clear b6
        go_wp2_with fail
        go_ret
        exact ⟨by rw [← HRv.out] <;> rfl, HF.out⟩
    · have hl1 : ((k5 : Int) != (ka : Int)) = true := bne_iff_ne.2 (by omega)
      have HRv := show Hid (21 = R) from by
        unfold Hid
        rw [← hR.out]
        unfold verL
        rw [if_pos HP.out.1, if_neg (by have := HL.out.2.2.2.2.2; have := HP.out; omega)]
      have HF := show Hid (Below w.heap.size w w3) from (HU.out w3 HB3.out).2.2.2.2.2.2.2.2
      clear cl b3 i1
      go_wp2_with fail
      go_ret
      exact ⟨by rw [← HRv.out] <;> rfl, HF.out⟩
  · rw [decide_eq_false cp] at hRt
    have HRv := show Hid (2 = R) from by
      unfold Hid
      rw [← hR.out]
      unfold verL
      rw [if_neg cp]
    clear cp
    go_enter Tryz.func12, Tryz.ntmps12
    go_wp2_with fail
    refine hRt.mono ?_
    rintro e w2 ⟨rfl, b2⟩
    clear hRt
    have HF := show Hid (Below w.heap.size w w2) from (HU.out w2 b2).2.2.2.2.2.2.2.2
    clear b2
    go_wp2_with fail
    go_ret
    exact ⟨by rw [← HRv.out] <;> rfl, HF.out⟩
end Go.Proofs.YtpcmpeeflnlkpaaGreatDoor
