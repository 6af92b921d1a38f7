/-
  The document's Size and Verify.
  The document's Less: two to a power, less a number.
  The document's Primes.
-/
import Derived.Test.YtpcmpeeflnlkpaaGreatDoorQRSealEtc
import Derived.Test.YtpcmpeeflnlkpaaGreatDoorNRExpEtc
namespace Go.Proofs.YtpcmpeeflnlkpaaGreatDoor
open Go.RowKit Ch
set_option maxRecDepth 100000

theorem digOfV (l : List UInt8) (v : Value) (w : World) (h : IsBytes w v ⟨l.toArray⟩) (hl : l.length ≤ 1000000) : Calls Tryz.prog 28 #[v] w fun e w' => (∃ y k c, e = .returned (.slice y k c) ∧ IsD l.length w' (.slice y k c) (numB l) ∧ (bareL l).length = k) ∧ Below w.heap.size w w' := by
  obtain ⟨y, c, rfl⟩ := isb_shape h
  have hz : (⟨l.toArray⟩ : ByteArray).size = l.length := size_of_list l
  have := digOf y c ⟨l.toArray⟩ w (by rw [hz]; exact h) (by rw [hz]; exact hl)
  rw [hz] at this
  refine this.mono ?_
  rintro e w' ⟨⟨v, h1, h2⟩, h3⟩
  have h2' := show IsD l.length w' v (numB l) from h2
  obtain ⟨y', c', L, rfl, _⟩ := id h2'
  exact ⟨⟨_, _, _, h1, h2', (isD_len h2' rfl).symm⟩, h3⟩
theorem rrRightV (v1 v2 v3 : Value) (N E D : List UInt8) (w : World) (hN : IsBytes w v1 ⟨N.toArray⟩) (hE : IsBytes w v2 ⟨E.toArray⟩) (hD : IsBytes w v3 ⟨D.toArray⟩) (lN : N.length ≤ 1000000) (lE : E.length ≤ 1000000) (lD : D.length ≤ 1000000) :
    Calls Tryz.prog 15 #[.agg #[v1, v2, v3]] w fun e w' => e = .returned (.bool (decide (rightP N E D))) ∧ Below w.heap.size w w' := by
  obtain ⟨x, cx, rfl⟩ := isb_shape hN
  obtain ⟨y, cy, rfl⟩ := isb_shape hE
  obtain ⟨z, cz, rfl⟩ := isb_shape hD
  have h1 : (⟨N.toArray⟩ : ByteArray).size = N.length := size_of_list N
  have h2 : (⟨E.toArray⟩ : ByteArray).size = E.length := size_of_list E
  have h3 : (⟨D.toArray⟩ : ByteArray).size = D.length := size_of_list D
  have := rrRight_any x y z cx cy cz ⟨N.toArray⟩ ⟨E.toArray⟩ ⟨D.toArray⟩ w (by rw [h1]; exact hN) (by rw [h2]; exact hE) (by rw [h3]; exact hD) (by rw [h1]; exact lN) (by rw [h2]; exact lE) (by rw [h3]; exact lD)
  rw [h1, h2, h3] at this
  exact this
theorem qrSize_any (v1 v2 v3 : Value) (N E D : List UInt8) (w : World) (h1 : IsBytes w v1 ⟨N.toArray⟩) (h2 : IsBytes w v2 ⟨E.toArray⟩) (h3 : IsBytes w v3 ⟨D.toArray⟩) (lN : N.length ≤ 1000000) :
    Calls Tryz.prog 19 #[.agg #[v1, v2, v3]] w fun e w' => e = .returned (.int .i64 ((bareL N).length : Int)) ∧ Below w.heap.size w w' := by
  obtain ⟨y1, k1, c1, rfl⟩ := isb_open h1
  obtain ⟨y2, k2, c2, rfl⟩ := isb_open h2
  obtain ⟨y3, k3, c3, rfl⟩ := isb_open h3
  have kb := keyBox w (.slice y1 k1 c1) (.slice y2 k2 c2) (.slice y3 k3 c3)
  obtain ⟨q, hq⟩ : ∃ q, w.heap.size = q := ⟨_, rfl⟩
  obtain ⟨W0, hW0⟩ : ∃ W, w.alloc (.cells #[.slice y1 k1 c1, .slice y2 k2 c2, .slice y3 k3 c3] 25) = W := ⟨_, rfl⟩
  rw [hW0, hq] at kb
  have hO := digOfV N (.slice y1 k1 c1) W0 (h1.later kb.below) lN
  obtain ⟨g0, _⟩ := kb.cells (Below.refl _ W0)
  have HB := show Hid (Below w.heap.size w W0) from kb.below
  clear kb h1 h2 h3
  go_enter Tryz.func19, Tryz.ntmps19
  go_wp2_with fail
  refine hO.mono ?_
  rintro e w2 ⟨⟨y, k, c, rfl, _, hk⟩, b2⟩
  have HF := show Hid (Below w.heap.size w w2 ∧ (bareL N).length = k) from ⟨bl2 HB.out b2, hk⟩
  clear hO b2 hk
  go_wp2_with fail
  go_ret
  exact ⟨by rw [HF.out.2] <;> rfl, HF.out.1⟩
set_option maxHeartbeats 8000000 in
theorem qrVerify_any (v1 v2 v3 vb vs : Value) (N E D b S : List UInt8) (w : World) (h1 : IsBytes w v1 ⟨N.toArray⟩) (h2 : IsBytes w v2 ⟨E.toArray⟩) (h3 : IsBytes w v3 ⟨D.toArray⟩) (h4 : IsBytes w vb ⟨b.toArray⟩) (h5 : IsBytes w vs ⟨S.toArray⟩)
    (lN : N.length ≤ 1000) (lE : E.length ≤ 1000) (lD : D.length ≤ 1000) (lb : b.length ≤ 100000) (lS : S.length ≤ 1000) :
    Calls Tryz.prog 12 #[.agg #[v1, v2, v3], vb, vs] w fun e w' => e = .returned (.int .i64 (verL N E D b S)) ∧ Below w.heap.size w w' := by
  obtain ⟨y1, k1, c1, rfl⟩ := isb_open h1
  obtain ⟨y2, k2, c2, rfl⟩ := isb_open h2
  obtain ⟨y3, k3, c3, rfl⟩ := isb_open h3
  obtain ⟨y4, k4, c4, rfl⟩ := isb_open h4
  obtain ⟨y5, c5, rfl⟩ := isb_shape h5
  obtain ⟨k5, hk5⟩ : ∃ k, S.length = k := ⟨_, rfl⟩
  rw [hk5] at h5 ⊢
  have kb := keyBox w (.slice y1 k1 c1) (.slice y2 k2 c2) (.slice y3 k3 c3)
  obtain ⟨q, hq⟩ : ∃ q, w.heap.size = q := ⟨_, rfl⟩
  obtain ⟨W1, hW1⟩ : ∃ W, w.alloc (.cells #[.slice y1 k1 c1, .slice y2 k2 c2, .slice y3 k3 c3] 25) = W := ⟨_, rfl⟩
  rw [hW1, hq] at kb
  have hRt := rrRightV (.slice y1 k1 c1) (.slice y2 k2 c2) (.slice y3 k3 c3) N E D W1 (h1.later kb.below) (h2.later kb.below) (h3.later kb.below) (by omega) (by omega) (by omega)
  have HU := show Hid (∀ u, Below W1.heap.size W1 u → u.cell? ⟨q, 0, none⟩ = some (.slice y1 k1 c1) ∧ u.cell? ⟨q, 1, none⟩ = some (.slice y2 k2 c2) ∧ u.cell? ⟨q, 2, none⟩ = some (.slice y3 k3 c3) ∧ IsBytes u (.slice y1 k1 c1) ⟨N.toArray⟩ ∧ IsBytes u (.slice y2 k2 c2) ⟨E.toArray⟩ ∧ IsBytes u (.slice y3 k3 c3) ⟨D.toArray⟩ ∧ IsBytes u (.slice y4 k4 c4) ⟨b.toArray⟩ ∧ IsBytes u (.slice y5 k5 c5) ⟨S.toArray⟩ ∧ Below w.heap.size w u) from fun u hu => by
    obtain ⟨x, y, z⟩ := kb.cells hu
    have hb := bl2 kb.below hu
    exact ⟨x, y, z, h1.later hb, h2.later hb, h3.later hb, h4.later hb, h5.later hb, hb⟩
  have HL := show Hid (N.length ≤ 1000 ∧ E.length ≤ 1000 ∧ D.length ≤ 1000 ∧ b.length ≤ 100000 ∧ S.length ≤ 1000 ∧ S.length = k5) from ⟨lN, lE, lD, lb, lS, hk5⟩
  obtain ⟨R, hR⟩ : ∃ R, Hid (verL N E D b S = R) := ⟨_, rfl⟩
  rw [hR.out]
  obtain ⟨g0, g1, g2⟩ := kb.cells (Below.refl _ W1)
  clear kb h1 h2 h3 h4 h5 lN lE lD lb lS hk5
  by_cases cp : rightP N E D
  · rw [decide_eq_true cp] at hRt
    obtain ⟨ka, hka⟩ : ∃ k, (bareL N).length = k := ⟨_, rfl⟩
    have HP := show Hid (rightP N E D ∧ (bareL N).length = ka ∧ 62 ≤ ka ∧ ka ≤ 512 ∧ numB N ≠ 0) from by
      have h9 := cp.1
      have h8 := (right_len cp).2.2
      rw [numB_bare] at h8
      exact ⟨cp, hka, by omega, by omega, h8⟩
    clear cp hka
    go_enter Tryz.func12, Tryz.ntmps12
    go_wp2_with fail
    refine hRt.mono ?_
    rintro e w2 ⟨rfl, b2⟩
    clear hRt g0 g1 g2
    obtain ⟨g0, g1, g2, i1, i2, i3, i4, i5, _⟩ := HU.out w2 b2
    have hSz := qrSize_any (.slice y1 k1 c1) (.slice y2 k2 c2) (.slice y3 k3 c3) N E D w2 i1 i2 i3 (by have := HL.out; omega)
    rw [HP.out.2.1] at hSz
    have HB2 := show Hid (Below W1.heap.size W1 w2) from b2
    clear b2 i1 i2 i3 i4 i5
    go_wp2_with fail
    refine hSz.mono ?_
    rintro e w3 ⟨rfl, b3⟩
    clear hSz g0 g1 g2
    obtain ⟨g0, g1, g2, i1, _⟩ := HU.out w3 (bl2 HB2.out b3)
    have HB3 := show Hid (Below W1.heap.size W1 w3) from bl2 HB2.out b3
    by_cases cl : k5 = ka
    · subst cl
      have hO := digOfV N (.slice y1 k1 c1) w3 i1 (by have := HL.out; omega)
      clear b3 i1
      go_wp2_with fail
      refine hO.mono ?_
      rintro e w4 ⟨⟨ya, la, ca, rfl, d4, hl4⟩, b4⟩
      obtain rfl : k5 = la := HP.out.2.1.symm.trans hl4
      clear hO g0 g1 g2
      have hO := digOfV S (.slice y5 k5 c5) w4 (HU.out w4 (bl2 HB3.out b4)).2.2.2.2.2.2.2.1 (by have := HL.out; omega)
      have H4 := show Hid (IsD N.length w4 (.slice ya k5 ca) (numB N) ∧ Below W1.heap.size W1 w4) from ⟨d4, bl2 HB3.out b4⟩
      clear d4 b4 hl4
      go_wp2_with fail
      refine hO.mono ?_
      rintro e w5 ⟨⟨yb, lb, cb, rfl, d5, _⟩, b5⟩
      have hC := digCmp _ _ (.slice yb lb cb) (.slice ya k5 ca) (numB S) (numB N) w5 d5 (H4.out.1.later b5) (by have := HL.out; omega)
      have H5 := show Hid (IsD S.length w5 (.slice yb lb cb) (numB S) ∧ IsD N.length w5 (.slice ya k5 ca) (numB N) ∧ Below W1.heap.size W1 w5) from ⟨d5, H4.out.1.later b5, bl2 H4.out.2 b5⟩
      clear hO d5 b5
      have HV := show Hid (verL N E D b S = if numB S < numB N ∧ numB S ^ numB E % numB N = numB (sealL b k5) then 0 else 22) from by
        unfold Hid verL
        rw [if_pos HP.out.1, if_pos (HL.out.2.2.2.2.2.trans HP.out.2.1.symm), HP.out.2.1]
      have hcl := cmpN_lt (numB S) (numB N)
      obtain ⟨cq, hcq⟩ : ∃ c, cmpN (numB S) (numB N) = c := ⟨_, rfl⟩
      rw [hcq] at hC hcl
      clear hcq
      by_cases c1 : numB S < numB N
      · have q1 : cq < 0 := hcl.2 c1
        have HC1 := show Hid (numB S < numB N) from c1
        clear hcl c1
        go_wp2_with fail
        refine hC.mono ?_
        rintro e w6 ⟨rfl, b6⟩
        clear hC
        obtain ⟨g0, g1, g2, i1, i2, _⟩ := HU.out w6 (bl2 H5.out.2.2 b6)
        have hO := digOfV E (.slice y2 k2 c2) w6 i2 (by have := HL.out; omega)
        have H6 := show Hid (IsD S.length w6 (.slice yb lb cb) (numB S) ∧ IsD N.length w6 (.slice ya k5 ca) (numB N) ∧ Below W1.heap.size W1 w6) from ⟨H5.out.1.later b6, H5.out.2.1.later b6, bl2 H5.out.2.2 b6⟩
        clear b6 i1 i2
        go_wp2_with fail
        refine hO.mono ?_
        rintro e w7 ⟨⟨ye, le, ce, rfl, d7, _⟩, b7⟩
        have hX := digExp _ _ _ (.slice yb lb cb) (.slice ye le ce) (.slice ya k5 ca) (numB S) (numB E) (numB N) w7 (H6.out.1.later b7) d7 (H6.out.2.1.later b7) (by have := HL.out; omega) (by have := HL.out; omega) (by have := HL.out; omega) HP.out.2.2.2.2
        have H7 := show Hid (Below W1.heap.size W1 w7) from bl2 H6.out.2.2 b7
        clear hO d7 b7 g0 g1 g2
        go_wp2_with fail
        refine hX.mono ?_
        rintro e w8 ⟨⟨x8, rfl, d8⟩, b8⟩
        obtain ⟨yx, cx, LX, rfl, _⟩ := id d8
        obtain ⟨lx, hlx⟩ : ∃ k, LX.length = k := ⟨_, rfl⟩
        rw [hlx] at d8 ⊢
        have hb8 := bl2 H7.out b8
        have hSe := qrSeal_any (.slice y4 k4 c4) b k5 w8 (HU.out w8 hb8).2.2.2.2.2.2.1 (by have := HL.out; omega) HP.out.2.2.1 HP.out.2.2.2.1
        have H8 := show Hid (IsD N.length w8 (.slice yx lx cx) (numB S ^ numB E % numB N) ∧ Below W1.heap.size W1 w8) from ⟨d8, hb8⟩
        clear hX d8 b8 hb8 hlx
        go_wp2_with fail
        refine hSe.mono ?_
        rintro e w9 ⟨⟨x9, rfl, i9⟩, b9⟩
        obtain ⟨y9, k9, c9, rfl⟩ := isb_open i9
        have hO := digOfV (sealL b k5) (.slice y9 k9 c9) w9 i9 (by rw [sealL_length b (by have := HP.out; omega)]; have := HP.out; omega)
        have H9 := show Hid (IsD N.length w9 (.slice yx lx cx) (numB S ^ numB E % numB N) ∧ Below W1.heap.size W1 w9) from ⟨H8.out.1.later b9, bl2 H8.out.2 b9⟩
        clear hSe i9 b9
        go_wp2_with fail
        refine hO.mono ?_
        rintro e w10 ⟨⟨yt, lt, ct, rfl, d10, _⟩, b10⟩
        have hC := digCmp _ _ (.slice yx lx cx) (.slice yt lt ct) _ _ w10 (H9.out.1.later b10) d10 (by have := HL.out; omega)
        have H10 := show Hid (Below W1.heap.size W1 w10) from bl2 H9.out.2 b10
        clear hO d10 b10
        by_cases c2 : numB S ^ numB E % numB N = numB (sealL b k5)
        · have e0 : cmpN (numB S ^ numB E % numB N) (numB (sealL b k5)) = 0 := by unfold cmpN; rw [c2]; simp
          rw [e0] at hC
          have HRv := show Hid (0 = R) from by
            unfold Hid
            rw [← hR.out, HV.out, if_pos ⟨HC1.out, c2⟩]
          clear c2 e0
          go_wp2_with fail
          refine hC.mono ?_
          rintro e w11 ⟨rfl, b11⟩
          clear hC
          have HF := show Hid (Below w.heap.size w w11) from (HU.out w11 (bl2 H10.out b11)).2.2.2.2.2.2.2.2
          clear b11
          go_wp2_with fail
          go_ret
          exact ⟨by rw [← HRv.out] <;> rfl, HF.out⟩
        · have e0 : ∃ z : Int, cmpN (numB S ^ numB E % numB N) (numB (sealL b k5)) = z ∧ (z != 0) = true := by
            refine ⟨_, rfl, bne_iff_ne.2 ?_⟩
            unfold cmpN
            split
            · decide
            · split
              · decide
              · omega
          obtain ⟨z, e0, hz0⟩ := e0
          rw [e0] at hC
          have HRv := show Hid (22 = R) from by
            unfold Hid
            rw [← hR.out, HV.out, if_neg (fun h => c2 h.2)]
          clear c2 e0
          go_wp2_with fail
          refine hC.mono ?_
          rintro e w11 ⟨rfl, b11⟩
          clear hC
          have HF := show Hid (Below w.heap.size w w11) from (HU.out w11 (bl2 H10.out b11)).2.2.2.2.2.2.2.2
          clear b11
          go_wp2_with fail
          go_ret
          exact ⟨by rw [← HRv.out] <;> rfl, HF.out⟩
      · have q1 : ¬ cq < 0 := fun h => c1 (hcl.1 h)
        have q2 : 0 ≤ cq := by omega
        have HRv := show Hid (22 = R) from by
          unfold Hid
          rw [← hR.out, HV.out, if_neg (fun h => c1 h.1)]
        clear hcl c1
        go_wp2_with fail
        refine hC.mono ?_
        rintro e w6 ⟨rfl, b6⟩
        clear hC
        have HF := show Hid (Below w.heap.size w w6) from (HU.out w6 (bl2 H5.out.2.2 b6)).2.2.2.2.2.2.2.2
        clear b6
        go_wp2_with fail
        go_ret
        exact ⟨by rw [← HRv.out] <;> rfl, HF.out⟩
    · have hl1 : ((k5 : Int) != (ka : Int)) = true := bne_iff_ne.2 (by omega)
      have HRv := show Hid (21 = R) from by
        unfold Hid
        rw [← hR.out]
        unfold verL
        rw [if_pos HP.out.1, if_neg (by have := HL.out.2.2.2.2.2; have := HP.out; omega)]
      have HF := show Hid (Below w.heap.size w w3) from (HU.out w3 HB3.out).2.2.2.2.2.2.2.2
      clear cl b3 i1
      go_wp2_with fail
      go_ret
      exact ⟨by rw [← HRv.out] <;> rfl, HF.out⟩
  · rw [decide_eq_false cp] at hRt
    have HRv := show Hid (2 = R) from by
      unfold Hid
      rw [← hR.out]
      unfold verL
      rw [if_neg cp]
    clear cp
    go_enter Tryz.func12, Tryz.ntmps12
    go_wp2_with fail
    refine hRt.mono ?_
    rintro e w2 ⟨rfl, b2⟩
    clear hRt
    have HF := show Hid (Below w.heap.size w w2) from (HU.out w2 b2).2.2.2.2.2.2.2.2
    clear b2
    go_wp2_with fail
    go_ret
    exact ⟨by rw [← HRv.out] <;> rfl, HF.out⟩
end Go.Proofs.YtpcmpeeflnlkpaaGreatDoor

namespace Go.Proofs.YtpcmpeeflnlkpaaGreatDoor
open Go.RowKit Ch
set_option maxRecDepth 100000

theorem numD_zeros : ∀ (k : Nat) (L : List Nat), numD (List.replicate k 0 ++ L) = 256 ^ k * numD L
  | 0, L => by simp
  | k + 1, L => by
    rw [List.replicate_succ, List.cons_append]
    show 0 + 256 * numD (List.replicate k 0 ++ L) = _
    rw [numD_zeros k L, Nat.pow_succ, Nat.zero_add, ← Nat.mul_assoc, Nat.mul_comm 256]
theorem own_shapeN {w : World} {base : Nat} {v : Value} {L : List Nat} {m : Nat} (h : w.ownsRow base 3 1 v L.length (kc .i64 L)) (hm : L.length = m) : ∃ y c, v = .slice y m c := by
  subst hm
  obtain ⟨a, c, h1, _⟩ := own_n h
  exact ⟨a, c, h1⟩
theorem own_twoI (w : World) (a b : Nat) : (w.alloc (.cells #[.int .i64 (a : Int), .int .i64 (b : Int)] 3)).ownsRow w.heap.size 3 1 (.slice (some ⟨w.heap.size, 0, none⟩) 2 2) ([a, b] : List Nat).length (kc .i64 [a, b]) :=
  ⟨rfl, .inr ⟨w.heap.size, 2, #[.int .i64 (a : Int), .int .i64 (b : Int)], rfl, Nat.le_refl _, heap_push_at w _, Nat.le_refl _, by unfold maxLen; omega, rfl, rfl⟩⟩
theorem pow_le7 {j : Nat} (h : j < 8) : 2 ^ j ≤ 128 := (show (2 : Nat) ^ j ≤ 2 ^ 7 from Nat.pow_le_pow_right (by decide) (by omega))
set_option maxHeartbeats 8000000 in
theorem qrLess_any (n r k : Nat) (w : World) (hn : n ≤ 64) (hr : r < 8) (hk : k < 65536) (h1 : 2 ≤ n) (hk2 : k ≤ 256 ^ n) :
    Calls Tryz.prog 41 #[.int .i64 ((8 * n + r : Nat) : Int), .int .i64 (k : Int)] w fun e w' => (∃ x R, e = .returned x ∧ IsBytes w' x ⟨R.toArray⟩ ∧ bareL R = R ∧ numB R = 2 ^ (8 * n + r) - k) ∧ Below w.heap.size w w' := by
  obtain ⟨bt, hbt⟩ : ∃ b, 8 * n + r = b := ⟨_, rfl⟩
  rw [hbt]
  have e1 : (bt : Int).tdiv 8 = (n : Int) := by rw [Int.tdiv_eq_ediv_of_nonneg (by omega)]; omega
  have e2 : (bt : Int).tmod 8 = (r : Int) := by rw [Int.tmod_eq_emod_of_nonneg (by omega)]; omega
  obtain ⟨k0, hk0⟩ : ∃ x, k % 256 = x := ⟨_, rfl⟩
  obtain ⟨k1, hk1⟩ : ∃ x, k / 256 = x := ⟨_, rfl⟩
  have e3 : (k : Int).tmod 256 = (k0 : Int) := by rw [Int.tmod_eq_emod_of_nonneg (by omega)]; omega
  have e4 : (k : Int).tdiv 256 = (k1 : Int) := by rw [Int.tdiv_eq_ediv_of_nonneg (by omega)]; omega
  have HK := show Hid (k0 + 256 * k1 = k ∧ k0 < 256 ∧ k1 < 256 ∧ n ≤ 64 ∧ r < 8 ∧ 2 ≤ n ∧ k ≤ 256 ^ n) from ⟨by omega, by omega, by omega, hn, hr, h1, hk2⟩
  have HBT := show Hid (8 * n + r = bt) from hbt
  have wk1 : wrap64 (k1 : Int) = (k1 : Int) := by unfold wrap64; omega
  clear hk0 hk1 hk2 hk hbt
  go_enter Tryz.func41, Tryz.ntmps41
  go_wp2_with fail
  go_loopw [5, 6] (fun v p wr => ∃ (i : Nat) (c : Nat) (y : Option Addr), v = .slice y i c ∧ p = .int .i64 (i : Int) ∧ i ≤ n ∧ Hid (wr.ownsRow w.heap.size 3 1 (.slice y i c) (List.replicate i 0).length (kc .i64 (List.replicate i 0))) ∧ Hid (Below w.heap.size w wr)) (fun _ p _ => n - (intOf p).toNat)
  case atStart => exact ⟨0, 0, _, rfl, rfl, by omega, own_emptyN w _ _ (Nat.le_refl _), alB _ _⟩
  case round =>
    obtain ⟨i, c, y, rfl, rfl, hi, ho, hb⟩ := hrel
    have hown := ho.out
    have hbb := hb.out
    have hp5 : IntKind.i64.wrap ((i : Int) + 1) = (i : Int) + 1 := by rw [IntKind.wrap_i64]; omega
    by_cases hlt : i < n
    · have hin : (i : Int) < (n : Int) := by omega
      have HOL := show Hid (List.replicate i 0 ++ [0] = List.replicate (i + 1) 0) from by unfold Hid; rw [List.replicate_succ']
      go_wp2_with (at_builtin; go_must (refine wpList_append_n RI rfl _ _ rfl w.heap.size _ _ rfl hown _ rfl 0 rfl _ HOL (by rw [List.length_replicate]; omega) hbb.size hbb ?_; intro v2 w2 ho2 hb2; obtain ⟨y2, c2, rfl⟩ := own_shapeN (m := i + 1) ho2 List.length_replicate))
      go_roundw
      case rel => exact ⟨i + 1, c2, y2, rfl, by go_num, by omega, ho2, hb2⟩
      case measure => simp [intOf]; omega
    · obtain rfl : i = n := by omega
      have hin : ¬ (i : Int) < (i : Int) := by omega
      clear hown hbb hp5
      obtain ⟨wA, hwA⟩ : ∃ a, wr = a := ⟨_, rfl⟩
      rw [hwA] at ho hb ⊢
      clear hwA
      go_wp2_with fail
      go_loopw [7, 8] (fun a b wr => ∃ j pj : Nat, a = .int .i64 (pj : Int) ∧ b = .int .i64 (j : Int) ∧ j ≤ r ∧ Hid (pj = 2 ^ j) ∧ pj ≤ 128 ∧ Hid (wr = wA)) (fun _ b _ => r - (intOf b).toNat)
      case atStart => exact ⟨0, 1, rfl, rfl, by omega, rfl, by omega, rfl⟩
      case round =>
        obtain ⟨j, pj, rfl, rfl, hj, hpj, hpl, hwr⟩ := hrel
        have hw9 := hwr.out
        subst hw9
        have hp5 : IntKind.i64.wrap ((j : Int) + 1) = (j : Int) + 1 := by rw [IntKind.wrap_i64]; omega
        by_cases hlt2 : j < r
        · have hjr : (j : Int) < (r : Int) := by omega
          obtain ⟨p2, hp2⟩ : ∃ x, pj * 2 = x := ⟨_, rfl⟩
          have hp6 : IntKind.i64.wrap ((pj : Int) * 2) = (p2 : Int) := by rw [IntKind.wrap_i64]; omega
          have hp7 : p2 = 2 ^ (j + 1) := by rw [Nat.pow_succ, ← hpj.out]; exact hp2.symm
          have hp8 : p2 ≤ 128 := by rw [hp7]; exact pow_le7 (by omega)
          have HP7 := show Hid (p2 = 2 ^ (j + 1)) from hp7
          clear hp7 hp2
          go_wp2_with fail
          go_roundw
          case rel => exact ⟨j + 1, p2, rfl, by go_num, by omega, HP7.out, hp8, by unfold Hid; trivial⟩
          case measure => simp [intOf]; omega
        · obtain rfl : j = r := by omega
          have hjr : ¬ (j : Int) < (j : Int) := by omega
          have hown := ho.out
          have hbb := hb.out
          have HOL := show Hid (List.replicate i 0 ++ [pj] = List.replicate i 0 ++ [pj]) from rfl
          go_wp2_with (at_builtin; go_must (refine wpList_append_n RI rfl _ _ rfl w.heap.size _ _ rfl hown _ rfl pj rfl _ HOL (by rw [List.length_replicate]; omega) hbb.size hbb ?_; intro v2 w2 ho2 hb2; obtain ⟨y2, c2, rfl⟩ := own_shapeN (m := i + 1) ho2 (by simp)))
          have hLl : (List.replicate i 0 ++ [pj]).length = i + 1 := by simp
          have hLD : AllD (List.replicate i 0 ++ [pj]) := fun x hx => by
            rcases List.mem_append.1 hx with h | h
            · rw [List.eq_of_mem_replicate h]; decide
            · rw [List.mem_singleton.1 h]; omega
          have hND : numD (List.replicate i 0 ++ [pj]) = 2 ^ bt := by
            rw [numD_zeros, ← HBT.out, Nat.pow_add, Nat.pow_mul, hpj.out]
            simp [numD]
          have hMD : AllD [k0, k1] := fun x hx => by
            simp only [List.mem_cons, List.not_mem_nil, or_false] at hx
            rcases hx with rfl | rfl
            · exact HK.out.2.1
            · exact HK.out.2.2.1
          have hNM : numD [k0, k1] = k := by have h9 := HK.out.1; simp only [numD]; omega
          have hle : k ≤ 2 ^ bt := by
            refine Nat.le_trans HK.out.2.2.2.2.2.2 ?_
            rw [← HBT.out, Nat.pow_add, Nat.pow_mul]
            exact Nat.le_mul_of_pos_right _ (Nat.pow_pos (by decide))
          have i2 := own_n ho2
          rw [hLl] at ho2
          have hSb := digSubU (List.replicate i 0 ++ [pj]) [k0, k1] y2 (some ⟨w2.heap.size, 0, none⟩) c2 2 (w2.alloc (.cells #[.int .i64 (k0 : Int), .int .i64 (k1 : Int)] 3)) (by rw [hLl]; exact i2.alloc _) hLD (own_n (own_twoI w2 k0 k1)) hMD (by rw [hLl]; have h9 := HK.out.2.2.2.2.2.1; show 2 ≤ i + 1; omega) (by rw [hLl]; omega) (by rw [hND, hNM]; exact hle)
          rw [hLl, hND, hNM, show ([k0, k1] : List Nat).length = 2 from rfl] at hSb
          have b3 := alB w2 (.cells #[.int .i64 (k0 : Int), .int .i64 (k1 : Int)] 3)
          have H3 := show Hid (Below w.heap.size w (w2.alloc (.cells #[.int .i64 (k0 : Int), .int .i64 (k1 : Int)] 3))) from bl2 hb2 b3
          clear hLl hLD hND hMD hNM hle i2 ho2 hb2 b3
          refine hSb.mono ?_
          rintro e w4 ⟨⟨x4, rfl, d4, _⟩, b4⟩
          have hBy := dBytes_any (i + 1) x4 (2 ^ bt - k) w4 d4 (by omega)
          obtain ⟨y4, c4, L4, rfl, _⟩ := id d4
          have H4 := show Hid (Below w.heap.size w w4) from bl2 H3.out b4
          clear hSb d4 b4 H3
          go_wp2_with fail
          refine hBy.mono ?_
          rintro e w5 ⟨⟨x5, rfl, R, y5, c5, rfl, i5, hR, hN⟩, b5⟩
          have HF := show Hid (IsBytes w5 (.slice y5 R.length c5) ⟨R.toArray⟩ ∧ bareL R = R ∧ numB R = 2 ^ bt - k ∧ Below w.heap.size w w5) from ⟨i5, hR, hN, bl2 H4.out b5⟩
          clear hBy i5 hR hN b5
          go_wp2_with fail
          go_ret
          exact ⟨⟨_, R, rfl, HF.out.1, HF.out.2.1, HF.out.2.2.1⟩, HF.out.2.2.2⟩
end Go.Proofs.YtpcmpeeflnlkpaaGreatDoor

namespace Go.Proofs.YtpcmpeeflnlkpaaGreatDoor
open Go.RowKit Ch
set_option maxRecDepth 100000

/-- Bytes of this number, without leading noughts. -/
def IsP (w : World) (v : Value) (N : Nat) : Prop := ∃ R : List UInt8, IsBytes w v ⟨R.toArray⟩ ∧ bareL R = R ∧ numB R = N
theorem IsP.later {w w' : World} {v : Value} {N : Nat} (h : IsP w v N) (hb : Below w.heap.size w w') : IsP w' v N := by
  obtain ⟨R, h1, h2⟩ := h
  exact ⟨R, h1.later hb, h2⟩
def c_256_357 : Nat := 2 ^ 256 - 357
theorem c_256_357_eq : c_256_357 = 2 ^ 256 - 357 := by rw [c_256_357]
theorem qrLess_256_357 (w : World) : Calls Tryz.prog 41 #[.int .i64 256, .int .i64 357] w fun e w' => (∃ x, e = .returned x ∧ IsP w' x c_256_357) ∧ Below w.heap.size w w' := by
  have h := qrLess_any 32 0 357 w (by decide) (by decide) (by decide) (by decide) (Nat.le_trans (show 357 ≤ 256 ^ 2 by decide) (Nat.pow_le_pow_right (by decide) (by decide)))
  rw [show 8 * 32 + 0 = 256 from rfl] at h
  refine Calls.mono (show Calls Tryz.prog 41 #[.int .i64 256, .int .i64 357] w _ from h) ?_
  rintro e w' ⟨⟨x, R, rfl, h1, h2, h3⟩, hb⟩
  exact ⟨⟨x, rfl, R, h1, h2, h3.trans c_256_357_eq.symm⟩, hb⟩
def c_255_31 : Nat := 2 ^ 255 - 31
theorem c_255_31_eq : c_255_31 = 2 ^ 255 - 31 := by rw [c_255_31]
theorem qrLess_255_31 (w : World) : Calls Tryz.prog 41 #[.int .i64 255, .int .i64 31] w fun e w' => (∃ x, e = .returned x ∧ IsP w' x c_255_31) ∧ Below w.heap.size w w' := by
  have h := qrLess_any 31 7 31 w (by decide) (by decide) (by decide) (by decide) (Nat.le_trans (show 31 ≤ 256 ^ 2 by decide) (Nat.pow_le_pow_right (by decide) (by decide)))
  rw [show 8 * 31 + 7 = 255 from rfl] at h
  refine Calls.mono (show Calls Tryz.prog 41 #[.int .i64 255, .int .i64 31] w _ from h) ?_
  rintro e w' ⟨⟨x, R, rfl, h1, h2, h3⟩, hb⟩
  exact ⟨⟨x, rfl, R, h1, h2, h3.trans c_255_31_eq.symm⟩, hb⟩
def c_256_435 : Nat := 2 ^ 256 - 435
theorem c_256_435_eq : c_256_435 = 2 ^ 256 - 435 := by rw [c_256_435]
theorem qrLess_256_435 (w : World) : Calls Tryz.prog 41 #[.int .i64 256, .int .i64 435] w fun e w' => (∃ x, e = .returned x ∧ IsP w' x c_256_435) ∧ Below w.heap.size w w' := by
  have h := qrLess_any 32 0 435 w (by decide) (by decide) (by decide) (by decide) (Nat.le_trans (show 435 ≤ 256 ^ 2 by decide) (Nat.pow_le_pow_right (by decide) (by decide)))
  rw [show 8 * 32 + 0 = 256 from rfl] at h
  refine Calls.mono (show Calls Tryz.prog 41 #[.int .i64 256, .int .i64 435] w _ from h) ?_
  rintro e w' ⟨⟨x, R, rfl, h1, h2, h3⟩, hb⟩
  exact ⟨⟨x, rfl, R, h1, h2, h3.trans c_256_435_eq.symm⟩, hb⟩
def c_255_19 : Nat := 2 ^ 255 - 19
theorem c_255_19_eq : c_255_19 = 2 ^ 255 - 19 := by rw [c_255_19]
theorem qrLess_255_19 (w : World) : Calls Tryz.prog 41 #[.int .i64 255, .int .i64 19] w fun e w' => (∃ x, e = .returned x ∧ IsP w' x c_255_19) ∧ Below w.heap.size w w' := by
  have h := qrLess_any 31 7 19 w (by decide) (by decide) (by decide) (by decide) (Nat.le_trans (show 19 ≤ 256 ^ 2 by decide) (Nat.pow_le_pow_right (by decide) (by decide)))
  rw [show 8 * 31 + 7 = 255 from rfl] at h
  refine Calls.mono (show Calls Tryz.prog 41 #[.int .i64 255, .int .i64 19] w _ from h) ?_
  rintro e w' ⟨⟨x, R, rfl, h1, h2, h3⟩, hb⟩
  exact ⟨⟨x, rfl, R, h1, h2, h3.trans c_255_19_eq.symm⟩, hb⟩
def c_512_569 : Nat := 2 ^ 512 - 569
theorem c_512_569_eq : c_512_569 = 2 ^ 512 - 569 := by rw [c_512_569]
theorem qrLess_512_569 (w : World) : Calls Tryz.prog 41 #[.int .i64 512, .int .i64 569] w fun e w' => (∃ x, e = .returned x ∧ IsP w' x c_512_569) ∧ Below w.heap.size w w' := by
  have h := qrLess_any 64 0 569 w (by decide) (by decide) (by decide) (by decide) (Nat.le_trans (show 569 ≤ 256 ^ 2 by decide) (Nat.pow_le_pow_right (by decide) (by decide)))
  rw [show 8 * 64 + 0 = 512 from rfl] at h
  refine Calls.mono (show Calls Tryz.prog 41 #[.int .i64 512, .int .i64 569] w _ from h) ?_
  rintro e w' ⟨⟨x, R, rfl, h1, h2, h3⟩, hb⟩
  exact ⟨⟨x, rfl, R, h1, h2, h3.trans c_512_569_eq.symm⟩, hb⟩
def c_511_187 : Nat := 2 ^ 511 - 187
theorem c_511_187_eq : c_511_187 = 2 ^ 511 - 187 := by rw [c_511_187]
theorem qrLess_511_187 (w : World) : Calls Tryz.prog 41 #[.int .i64 511, .int .i64 187] w fun e w' => (∃ x, e = .returned x ∧ IsP w' x c_511_187) ∧ Below w.heap.size w w' := by
  have h := qrLess_any 63 7 187 w (by decide) (by decide) (by decide) (by decide) (Nat.le_trans (show 187 ≤ 256 ^ 2 by decide) (Nat.pow_le_pow_right (by decide) (by decide)))
  rw [show 8 * 63 + 7 = 511 from rfl] at h
  refine Calls.mono (show Calls Tryz.prog 41 #[.int .i64 511, .int .i64 187] w _ from h) ?_
  rintro e w' ⟨⟨x, R, rfl, h1, h2, h3⟩, hb⟩
  exact ⟨⟨x, rfl, R, h1, h2, h3.trans c_511_187_eq.symm⟩, hb⟩
def c_256_189 : Nat := 2 ^ 256 - 189
theorem c_256_189_eq : c_256_189 = 2 ^ 256 - 189 := by rw [c_256_189]
theorem qrLess_256_189 (w : World) : Calls Tryz.prog 41 #[.int .i64 256, .int .i64 189] w fun e w' => (∃ x, e = .returned x ∧ IsP w' x c_256_189) ∧ Below w.heap.size w w' := by
  have h := qrLess_any 32 0 189 w (by decide) (by decide) (by decide) (by decide) (Nat.le_trans (show 189 ≤ 256 ^ 2 by decide) (Nat.pow_le_pow_right (by decide) (by decide)))
  rw [show 8 * 32 + 0 = 256 from rfl] at h
  refine Calls.mono (show Calls Tryz.prog 41 #[.int .i64 256, .int .i64 189] w _ from h) ?_
  rintro e w' ⟨⟨x, R, rfl, h1, h2, h3⟩, hb⟩
  exact ⟨⟨x, rfl, R, h1, h2, h3.trans c_256_189_eq.symm⟩, hb⟩
theorem qrPrimes_1 (w : World) : Calls Tryz.prog 20 #[.int .i64 1] w fun e w' => (∃ x y, e = .returned (.tuple #[x, y]) ∧ IsP w' x c_256_357 ∧ IsP w' y c_255_31) ∧ Below w.heap.size w w' := by
  have h1 := qrLess_256_357 w
  generalize c_256_357 = P at *
  generalize hQ : c_255_31 = Q
  go_enter Tryz.func20, Tryz.ntmps20
  go_wp2_with fail
  refine h1.mono ?_
  rintro e w1 ⟨⟨x, rfl, p1⟩, b1⟩
  have h2 := qrLess_255_31 w1
  rw [hQ] at h2
  clear h1
  go_wp2_with fail
  refine h2.mono ?_
  rintro e w2 ⟨⟨y, rfl, p2⟩, b2⟩
  have HF := show Hid (IsP w2 x P ∧ IsP w2 y Q ∧ Below w.heap.size w w2) from ⟨p1.later b2, p2, bl2 b1 b2⟩
  clear h2 p1 p2 b1 b2
  go_wp2_with fail
  go_ret2
  exact ⟨⟨_, _, rfl, HF.out.1, HF.out.2.1⟩, HF.out.2.2⟩
theorem qrPrimes_2 (w : World) : Calls Tryz.prog 20 #[.int .i64 2] w fun e w' => (∃ x y, e = .returned (.tuple #[x, y]) ∧ IsP w' x c_256_435 ∧ IsP w' y c_255_19) ∧ Below w.heap.size w w' := by
  have h1 := qrLess_256_435 w
  generalize c_256_435 = P at *
  generalize hQ : c_255_19 = Q
  go_enter Tryz.func20, Tryz.ntmps20
  go_wp2_with fail
  refine h1.mono ?_
  rintro e w1 ⟨⟨x, rfl, p1⟩, b1⟩
  have h2 := qrLess_255_19 w1
  rw [hQ] at h2
  clear h1
  go_wp2_with fail
  refine h2.mono ?_
  rintro e w2 ⟨⟨y, rfl, p2⟩, b2⟩
  have HF := show Hid (IsP w2 x P ∧ IsP w2 y Q ∧ Below w.heap.size w w2) from ⟨p1.later b2, p2, bl2 b1 b2⟩
  clear h2 p1 p2 b1 b2
  go_wp2_with fail
  go_ret2
  exact ⟨⟨_, _, rfl, HF.out.1, HF.out.2.1⟩, HF.out.2.2⟩
theorem qrPrimes_3 (w : World) : Calls Tryz.prog 20 #[.int .i64 3] w fun e w' => (∃ x y, e = .returned (.tuple #[x, y]) ∧ IsP w' x c_512_569 ∧ IsP w' y c_511_187) ∧ Below w.heap.size w w' := by
  have h1 := qrLess_512_569 w
  generalize c_512_569 = P at *
  generalize hQ : c_511_187 = Q
  go_enter Tryz.func20, Tryz.ntmps20
  go_wp2_with fail
  refine h1.mono ?_
  rintro e w1 ⟨⟨x, rfl, p1⟩, b1⟩
  have h2 := qrLess_511_187 w1
  rw [hQ] at h2
  clear h1
  go_wp2_with fail
  refine h2.mono ?_
  rintro e w2 ⟨⟨y, rfl, p2⟩, b2⟩
  have HF := show Hid (IsP w2 x P ∧ IsP w2 y Q ∧ Below w.heap.size w w2) from ⟨p1.later b2, p2, bl2 b1 b2⟩
  clear h2 p1 p2 b1 b2
  go_wp2_with fail
  go_ret2
  exact ⟨⟨_, _, rfl, HF.out.1, HF.out.2.1⟩, HF.out.2.2⟩
theorem qrPrimes_0 (w : World) : Calls Tryz.prog 20 #[.int .i64 0] w fun e w' => (∃ x y, e = .returned (.tuple #[x, y]) ∧ IsP w' x c_256_189 ∧ IsP w' y c_255_19) ∧ Below w.heap.size w w' := by
  have h1 := qrLess_256_189 w
  generalize c_256_189 = P at *
  generalize hQ : c_255_19 = Q
  go_enter Tryz.func20, Tryz.ntmps20
  go_wp2_with fail
  refine h1.mono ?_
  rintro e w1 ⟨⟨x, rfl, p1⟩, b1⟩
  have h2 := qrLess_255_19 w1
  rw [hQ] at h2
  clear h1
  go_wp2_with fail
  refine h2.mono ?_
  rintro e w2 ⟨⟨y, rfl, p2⟩, b2⟩
  have HF := show Hid (IsP w2 x P ∧ IsP w2 y Q ∧ Below w.heap.size w w2) from ⟨p1.later b2, p2, bl2 b1 b2⟩
  clear h2 p1 p2 b1 b2
  go_wp2_with fail
  go_ret2
  exact ⟨⟨_, _, rfl, HF.out.1, HF.out.2.1⟩, HF.out.2.2⟩
end Go.Proofs.YtpcmpeeflnlkpaaGreatDoor
