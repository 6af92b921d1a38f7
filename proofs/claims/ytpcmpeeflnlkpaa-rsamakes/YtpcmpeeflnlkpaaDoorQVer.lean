/-
  rsa.Verify.
-/
import Derived.Test.YtpcmpeeflnlkpaaDoorQTrim
namespace Go.Proofs.YtpcmpeeflnlkpaaDoor
open Go.RowKit Ch
set_option maxRecDepth 100000

/-- What Verify answers. -/
def verL (N E D b S : List UInt8) : Int := if rightP N E D then if S.length = (bareL N).length then if numB S < numB N ∧ numB S ^ numB E % numB N = numB (sealL b (bareL N).length) then 0 else 22 else 21 else 2
theorem right_len {N E D : List UInt8} (h : rightP N E D) : (bareL E).length ≤ (bareL N).length ∧ (bareL D).length ≤ (bareL N).length ∧ numB (bareL N) ≠ 0 := by
  obtain ⟨_, _, _, h4, h5, h6⟩ := h
  have hlt : numB (bareL N) < 256 ^ (bareL N).length := (show ∀ l : List UInt8, bareL l = l → numB l < 256 ^ l.length from fun l _ => numB_lt l) _ (bare_bare N)
  rw [numB_bare] at hlt
  refine ⟨numB_pow (bare_bare E) (by rw [numB_bare]; omega), numB_pow (bare_bare D) (by rw [numB_bare]; omega), ?_⟩
  rw [numB_bare]
  omega
theorem boxN_sl {u : World} {q : Nat} {t : TypeId} {a b c : Option Addr} {k l m k' l' m' : Nat} (h : u.heap[q]? = some (.cells #[.slice a k k', .slice b l l', .slice c m m'] t (0, 0))) : BoxN u q := ⟨_, _, _, h, fun i z => by
  rcases i with _ | _ | _ | i <;> simp⟩
set_option maxHeartbeats 8000000 in
theorem qVerify_any (v1 v2 v3 vb vs : Value) (N E D b S : List UInt8) (w : World) (h1 : IsBytes w v1 ⟨N.toArray⟩) (h2 : IsBytes w v2 ⟨E.toArray⟩) (h3 : IsBytes w v3 ⟨D.toArray⟩) (h4 : IsBytes w vb ⟨b.toArray⟩) (h5 : IsBytes w vs ⟨S.toArray⟩) (hK : KTab w)
    (lN : N.length ≤ 900000) (lE : E.length ≤ 900000) (lD : D.length ≤ 900000) (lb : b.length ≤ 900000) (lS : S.length ≤ 900000) :
    Calls Tryd.prog 17 #[.agg #[v1, v2, v3], vb, vs] w fun e w' => e = .returned (.int .i64 (verL N E D b S)) ∧ Below w.heap.size w w' := by
  obtain ⟨y1, k1, c1, rfl⟩ := isb_open h1
  obtain ⟨y2, k2, c2, rfl⟩ := isb_open h2
  obtain ⟨y3, k3, c3, rfl⟩ := isb_open h3
  obtain ⟨y4, k4, c4, rfl⟩ := isb_open h4
  obtain ⟨y5, c5, rfl⟩ := isb_shape h5
  obtain ⟨k5, hk5⟩ : ∃ k, S.length = k := ⟨_, rfl⟩
  rw [hk5] at h5 ⊢
  have kb := keyBox w (.slice y1 k1 c1) (.slice y2 k2 c2) (.slice y3 k3 c3)
  obtain ⟨q, hq⟩ : ∃ q, w.heap.size = q := ⟨_, rfl⟩
  obtain ⟨W1, hW1⟩ : ∃ W, w.alloc (.cells #[.slice y1 k1 c1, .slice y2 k2 c2, .slice y3 k3 c3] 25) = W := ⟨_, rfl⟩
  rw [hW1, hq] at kb
  have hRt := rightV (.slice y1 k1 c1) (.slice y2 k2 c2) (.slice y3 k3 c3) N E D W1 (h1.later kb.below) (h2.later kb.below) (h3.later kb.below) (by omega) (by omega) (by omega)
  have HK := show Hid (KeyBox w W1 q (.slice y1 k1 c1) (.slice y2 k2 c2) (.slice y3 k3 c3)) from kb
  have HU := show Hid (∀ u, Below w.heap.size w u → IsBytes u (.slice y1 k1 c1) ⟨N.toArray⟩ ∧ IsBytes u (.slice y2 k2 c2) ⟨E.toArray⟩ ∧ IsBytes u (.slice y3 k3 c3) ⟨D.toArray⟩ ∧ IsBytes u (.slice y4 k4 c4) ⟨b.toArray⟩ ∧ IsBytes u (.slice y5 k5 c5) ⟨S.toArray⟩ ∧ KTab u) from fun u hu =>
    ⟨h1.later hu, h2.later hu, h3.later hu, h4.later hu, h5.later hu, hK.later hu⟩
  have HL := show Hid (N.length ≤ 900000 ∧ E.length ≤ 900000 ∧ D.length ≤ 900000 ∧ b.length ≤ 900000 ∧ S.length ≤ 900000 ∧ S.length = k5) from ⟨lN, lE, lD, lb, lS, hk5⟩
  obtain ⟨R, hR⟩ : ∃ R, Hid (verL N E D b S = R) := ⟨_, rfl⟩
  rw [hR.out]
  obtain ⟨g0, g1, g2⟩ := kb.cells (Below.refl _ W1)
  clear kb h1 h2 h3 h4 h5 hK lN lE lD lb lS hk5
  by_cases cp : rightP N E D
  · rw [decide_eq_true cp] at hRt
    have HP := show Hid (rightP N E D) from cp
    clear cp
    go_enter Tryd.func17, Tryd.ntmps17
    go_wp2_with fail
    refine hRt.mono ?_
    rintro e w2 ⟨rfl, b2⟩
    clear hRt g0 g1 g2
    obtain ⟨g0, g1, g2⟩ := HK.out.cells b2
    have HB2 := show Hid (Below W1.heap.size W1 w2) from b2
    have hw2 := bl2 HK.out.below b2
    have hTm := qTrimmed_any (.slice y1 k1 c1) (.slice y2 k2 c2) (.slice y3 k3 c3) N E D w2 (HU.out w2 hw2).1 (HU.out w2 hw2).2.1 (HU.out w2 hw2).2.2.1 HL.out.1 HL.out.2.1 HL.out.2.2.1
    clear b2 hw2
    go_wp2_with fail
    refine hTm.mono ?_
    rintro e w3 ⟨⟨v, rfl, ya, ka, ca, yb, kb, cb, yc, kc, cc, rfl, ia, ib, ic⟩, b3⟩
    clear hTm g0 g1 g2
    have hB := ((bl2 HB2.out b3).block q (block_lt HK.out.at0)).trans HK.out.at0
    have HE := show Hid (_ ∧ _) from key_stored (.slice ya ka ca) (.slice yb kb cb) (.slice yc kc cc) hB
    have f0 := block_free 0 hB
    have f1 := block_free 1 hB
    have f2 := block_free 2 hB
    have g0 := block_cell (v := .slice y1 k1 c1) 0 hB rfl
    have g1 := block_cell (v := .slice y2 k2 c2) 1 hB rfl
    have g2 := block_cell (v := .slice y3 k3 c3) 2 hB rfl
    have HI := show Hid (IsBytes w3 (.slice ya ka ca) ⟨(bareL N).toArray⟩ ∧ IsBytes w3 (.slice yb kb cb) ⟨(bareL E).toArray⟩ ∧ IsBytes w3 (.slice yc kc cc) ⟨(bareL D).toArray⟩ ∧ BoxN w3 q ∧ Below w.heap.size w w3) from ⟨ia, ib, ic, boxN_sl hB, bl2 HK.out.below (bl2 HB2.out b3)⟩
    have hka : (bareL N).length = ka := (size_of_list _).symm.trans (isb_size ia)
    have HN := show Hid ((bareL N).length = ka ∧ 62 ≤ ka ∧ ka ≤ 512 ∧ (bareL E).length ≤ 512 ∧ numB (bareL N) ≠ 0) from by
      have h9 := HP.out.1
      have h8 := right_len HP.out
      rw [hka] at h9 h8
      exact ⟨hka, h9.1, h9.2, by omega, h8.2.2⟩
    have HS := show Hid (∀ W5, W5.heap[q]? = some (.cells #[.slice ya ka ca, .slice yb kb cb, .slice yc kc cc] 25 (0, 0)) → KeptX [q] w3 W5 → Below w.heap.size w W5 ∧ IsBytes W5 (.slice ya ka ca) ⟨(bareL N).toArray⟩ ∧ IsBytes W5 (.slice yb kb cb) ⟨(bareL E).toArray⟩ ∧ IsBytes W5 (.slice yc kc cc) ⟨(bareL D).toArray⟩) from fun W5 hb5 hk5 => by
      have hbx : ∀ p ∈ [q], BoxN w3 p := fun p hp => by
        rw [List.mem_singleton.1 hp]
        exact HI.out.2.2.2.1
      exact ⟨HI.out.2.2.2.2.trans (hk5.below HI.out.2.2.2.2.size (fun p hp => by
        rw [List.mem_singleton.1 hp]
        omega)), HI.out.1.keptN hk5 hbx, HI.out.2.1.keptN hk5 hbx, HI.out.2.2.1.keptN hk5 hbx⟩
    clear hB ia ib ic b3 hka
    by_cases cl : k5 = ka
    · subst cl
      go_wp2_with fail
      generalize (((w3.setCell ⟨q, 0, none⟩ (.slice ya k5 ca)).setCell ⟨q, 1, none⟩ (.slice yb kb cb)).setCell ⟨q, 2, none⟩ (.slice yc kc cc)) = W5 at *
      clear g0 g1 g2 f0 f1 f2
      obtain ⟨hb5, hk5⟩ := HE.out
      have HJ := show Hid (_ ∧ _) from HS.out W5 hb5 hk5
      have hSe := qSeal_any (.slice y4 k4 c4) b k5 W5 (HU.out W5 HJ.out.1).2.2.2.1 (HU.out W5 HJ.out.1).2.2.2.2.2 HL.out.2.2.2.1 HN.out.2.1 HN.out.2.2.1
      refine hSe.mono ?_
      rintro e w6 ⟨⟨v6, rfl, i6⟩, b6⟩
      obtain ⟨y6, k6, c6, rfl⟩ := isb_open i6
      have hqb := (b6.block q (block_lt hb5)).trans hb5
      have g0 := block_cell (v := .slice ya k5 ca) 0 hqb rfl
      have g1 := block_cell (v := .slice yb kb cb) 1 hqb rfl
      have g2 := block_cell (v := .slice yc kc cc) 2 hqb rfl
      have hw6 := bl2 HJ.out.1 b6
      have hC := cmpV S (bareL N) (.slice y5 k5 c5) (.slice ya k5 ca) w6 (HU.out w6 hw6).2.2.2.2.1 (HJ.out.2.1.later b6) (by have := HL.out.2.2.2.2.1; omega) (by have := HN.out; omega)
      have hO := qOpens_any (.slice ya k5 ca) (.slice yb kb cb) (.slice yc kc cc) (.slice y5 k5 c5) (.slice y6 k6 c6) (bareL N) (bareL E) (bareL D) S (sealL b k5) w6 (HJ.out.2.1.later b6) (HJ.out.2.2.1.later b6) (HJ.out.2.2.2.later b6) (HU.out w6 hw6).2.2.2.2.1 i6 (by have := HN.out; omega) (by have := HN.out; omega) (by have := HN.out; have := HL.out.2.2.2.2.2; omega) (by rw [sealL_length b (by have := HN.out; omega)]; have := HN.out; omega) HN.out.2.2.2.2 (bare_bare N)
      rw [numB_bare, numB_bare] at hO
      have hc := (cmp_num S (bareL N)).1
      rw [numB_bare] at hc
      obtain ⟨cq, hcq⟩ : ∃ c, cmpL S (bareL N) = c := ⟨_, rfl⟩
      rw [hcq] at hc hC
      have HB6 := show Hid (Below w.heap.size w w6) from hw6
      have HV := show Hid (verL N E D b S = if numB S < numB N ∧ numB S ^ numB E % numB N = numB (sealL b k5) then 0 else 22) from by
        unfold Hid verL
        rw [if_pos HP.out, if_pos (HL.out.2.2.2.2.2.trans HN.out.1.symm), HN.out.1]
      clear hSe hcq hb5 hk5 i6 b6 hqb hw6
      by_cases c1 : numB S < numB N
      · have q1 : cq < 0 := hc.2 c1
        by_cases c2 : numB S ^ numB E % numB N = numB (sealL b k5)
        · rw [decide_eq_true c2] at hO
          have HRv := show Hid (0 = R) from by
            unfold Hid
            rw [← hR.out, HV.out, if_pos ⟨c1, c2⟩]
          clear hc c1 c2
          go_wp2_with fail
          refine hC.mono ?_
          rintro e w7 ⟨rfl, rfl⟩
          clear hC
          go_wp2_with fail
          refine hO.mono ?_
          rintro e w8 ⟨rfl, b8⟩
          clear hO
          have HF := show Hid (Below w.heap.size w w8) from bl2 HB6.out b8
          clear b8
          go_wp2_with fail
          go_ret
          exact ⟨by rw [← HRv.out] <;> rfl, HF.out⟩
        · rw [decide_eq_false c2] at hO
          have HRv := show Hid (22 = R) from by
            unfold Hid
            rw [← hR.out, HV.out, if_neg (fun h => c2 h.2)]
          clear hc c1 c2
          go_wp2_with fail
          refine hC.mono ?_
          rintro e w7 ⟨rfl, rfl⟩
          clear hC
          go_wp2_with fail
          refine hO.mono ?_
          rintro e w8 ⟨rfl, b8⟩
          clear hO
          have HF := show Hid (Below w.heap.size w w8) from bl2 HB6.out b8
          clear b8
          go_wp2_with fail
          go_ret
          exact ⟨by rw [← HRv.out] <;> rfl, HF.out⟩
      · have q1 : ¬ cq < 0 := fun h => c1 (hc.1 h)
        have q2 : 0 ≤ cq := by omega
        have HRv := show Hid (22 = R) from by
          unfold Hid
          rw [← hR.out, HV.out, if_neg (fun h => c1 h.1)]
        clear hc c1 hO
        go_wp2_with fail
        refine hC.mono ?_
        rintro e w7 ⟨rfl, rfl⟩
        clear hC
        go_wp2_with fail
        go_ret
        exact ⟨by rw [← HRv.out] <;> rfl, HB6.out⟩
    · have hl1 : ((k5 : Int) != (ka : Int)) = true := bne_iff_ne.2 (by omega)
      have HRv := show Hid (21 = R) from by
        unfold Hid
        rw [← hR.out]
        unfold verL
        rw [if_pos HP.out, if_neg (by have := HL.out.2.2.2.2.2; have := HN.out; omega)]
      clear cl
      go_wp2_with fail
      generalize (((w3.setCell ⟨q, 0, none⟩ (.slice ya ka ca)).setCell ⟨q, 1, none⟩ (.slice yb kb cb)).setCell ⟨q, 2, none⟩ (.slice yc kc cc)) = W5 at *
      have HF := show Hid (_ ∧ _) from HS.out W5 HE.out.1 HE.out.2
      go_ret
      exact ⟨by rw [← HRv.out] <;> rfl, HF.out.1⟩
  · rw [decide_eq_false cp] at hRt
    have HRv := show Hid (2 = R) from by
      unfold Hid
      rw [← hR.out]
      unfold verL
      rw [if_neg cp]
    clear cp
    go_enter Tryd.func17, Tryd.ntmps17
    go_wp2_with fail
    refine hRt.mono ?_
    rintro e w2 ⟨rfl, b2⟩
    clear hRt
    have HF := show Hid (Below w.heap.size w w2) from bl2 HK.out.below b2
    clear b2
    go_wp2_with fail
    go_ret
    exact ⟨by rw [← HRv.out] <;> rfl, HF.out⟩
end Go.Proofs.YtpcmpeeflnlkpaaDoor
