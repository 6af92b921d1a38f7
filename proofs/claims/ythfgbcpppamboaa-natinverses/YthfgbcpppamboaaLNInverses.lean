/-
  NatInverses, walked.
-/
import Derived.Test.YthfgbcpppamboaaLNInvA
namespace Go.Proofs.Ythfgbcpppamboaa
open Go.RowKit Ch
set_option maxRecDepth 100000

set_option maxHeartbeats 8000000 in
theorem lnInverses_any (x : Option Addr) (cx : Nat) (s : ByteArray) (y : Option Addr) (cy : Nat) (t : ByteArray) (w : World) (hS : IsBytes w (.slice x s.size cx) s) (hT : IsBytes w (.slice y t.size cy) t) :
    Calls Try.prog 8 #[.slice x s.size cx, .slice y t.size cy] w fun e w' => e = .returned (.bool true) ∧ Below w.heap.size w w' := by
  have HU := show Hid (∀ u, Below w.heap.size w u → IsBytes u (.slice x s.size cx) s ∧ IsBytes u (.slice y t.size cy) t ∧ Below w.heap.size w u) from fun u hu => ⟨hS.later hu, hT.later hu, hu⟩
  clear hS hT
  go_enter Try.func8, Try.ntmps8
  by_cases hg0 : 30 < s.size
  · have hi0 : (30 : Int) < (s.size : Int) := by omega
    clear HU
    go_wp2_with fail
    refine (lnAwake_any w).mono ?_
    rintro e w1 ⟨rfl, hb1⟩
    go_wp2_with fail
    refine (lnAwake_any w1).mono ?_
    rintro e w2 ⟨rfl, hb2⟩
    have HF := show Hid (Below w.heap.size w w2) from bl2 hb1 hb2
    clear hb1 hb2
    go_wp2_with fail
    go_ret
    exact ⟨rfl, HF.out⟩
  have hi0 : ¬ (30 : Int) < (s.size : Int) := by omega
  by_cases hg1 : 30 < t.size
  · have hi1 : (30 : Int) < (t.size : Int) := by omega
    clear HU
    go_wp2_with fail
    refine (lnAwake_any w).mono ?_
    rintro e w1 ⟨rfl, hb1⟩
    go_wp2_with fail
    refine (lnAwake_any w1).mono ?_
    rintro e w2 ⟨rfl, hb2⟩
    have HF := show Hid (Below w.heap.size w w2) from bl2 hb1 hb2
    clear hb1 hb2
    go_wp2_with fail
    go_ret
    exact ⟨rfl, HF.out⟩
  have hi1 : ¬ (30 : Int) < (t.size : Int) := by omega
  have hs1 : s.size ≤ 1024 := by omega
  have ht1 : t.size ≤ 1024 := by omega
  go_wp2_with fail
  refine (lnAwake_any w).mono ?_
  rintro e w1 ⟨rfl, hb1⟩
  have hO1 := digOf x cx s w1 (HU.out w1 hb1).1 (by omega)
  go_wp2_with fail
  refine hO1.mono ?_
  rintro e w2 ⟨⟨va, rfl, hva⟩, hb2⟩
  clear hO1
  have hb12 := bl2 hb1 hb2
  have hO2 := digOf y cy t w2 (HU.out w2 hb12).2.1 (by omega)
  go_wp2_with fail
  refine hO2.mono ?_
  rintro e w3 ⟨⟨vb, rfl, hvb⟩, hb3⟩
  clear hO2
  have hb13 := bl2 hb12 hb3
  obtain ⟨y5, l5, c5, rfl, _, _⟩ := id hva.shape
  obtain ⟨y6, l6, c6, rfl, _, _⟩ := id hvb.shape
  obtain ⟨A, hA⟩ : ∃ A, numB s.data.toList = A := ⟨_, rfl⟩
  obtain ⟨M, hM⟩ : ∃ A, numB t.data.toList = A := ⟨_, rfl⟩
  have HAM := show Hid (numB s.data.toList = A ∧ numB t.data.toList = M) from ⟨hA, hM⟩
  rw [hA] at hva
  rw [hM] at hvb
  have HD0 := show Hid (∀ u, Below w3.heap.size w3 u → IsD 30 u (.slice y5 l5 c5) A ∧ IsD 30 u (.slice y6 l6 c6) M ∧ IsBytes u (.slice x s.size cx) s ∧ IsBytes u (.slice y t.size cy) t ∧ Below w.heap.size w u) from fun u hu => ⟨(hva.later (bl2 hb3 hu)).more (by omega), (hvb.later hu).more (by omega), HU.out u (bl2 hb13 hu)⟩
  clear HU hb1 hb2 hb3 hb12 hb13 hva hvb hA hM
  have hG := nGcd_any x y cx cy s t w3 (HD0.out w3 (Below.refl _ _)).2.2.1 (HD0.out w3 (Below.refl _ _)).2.2.2.1 hs1 ht1
  rw [HAM.out.1, HAM.out.2] at hG
  obtain ⟨G, hGe⟩ : ∃ G, Nat.gcd A M = G := ⟨_, rfl⟩
  rw [hGe] at hG
  have HGe := show Hid (Nat.gcd A M = G) from hGe
  clear hGe
  go_wp2_with fail
  refine hG.mono ?_
  intro e w4 hd
  obtain ⟨S1, z1, k1, rfl, n1, hb4⟩ := numOk_ex hd
  clear hG hd
  have hR := digGcd 30 (.slice y5 l5 c5) (.slice y6 l6 c6) A M w4 (HD0.out w4 hb4).1 (HD0.out w4 hb4).2.1 (by omega)
  rw [HGe.out] at hR
  go_wp2_with fail
  refine hR.mono ?_
  rintro e w5 ⟨⟨vw, rfl, hw⟩, hb5⟩
  clear hR
  obtain ⟨y7, l7, c7, rfl, _, _⟩ := id hw.shape
  have HD := show Hid (∀ u, Below w5.heap.size w5 u → IsD 30 u (.slice y5 l5 c5) A ∧ IsD 30 u (.slice y6 l6 c6) M ∧ IsD 30 u (.slice y7 l7 c7) G ∧ NumAt u (.slice z1 S1.size k1) S1 G ∧ IsBytes u (.slice x s.size cx) s ∧ IsBytes u (.slice y t.size cy) t ∧ Below w.heap.size w u) from fun u hu => by
    obtain ⟨q1, q2, q3⟩ := HD0.out u (bl2 hb4 (bl2 hb5 hu))
    exact ⟨q1, q2, hw.later hu, n1.later (bl2 hb5 hu), q3⟩
  clear HD0 hb4 hb5 n1 hw
  have i1 := HD.out w5 (Below.refl _ _)
  by_cases hM2 : M < 2
  · have hN := nInverse_arg x y cx cy s t w5 i1.2.2.2.2.1 i1.2.2.2.2.2.1 hs1 ht1 (by rw [HAM.out.2]; exact hM2)
    clear i1
    go_wp2_with fail
    refine hN.mono ?_
    rintro e w7 ⟨rfl, hb57⟩
    clear hN
    have hQ1 := lnSameS 30 G z1 k1 (.slice y7 l7 c7) S1 w7 (HD.out w7 hb57).2.2.2.1 (HD.out w7 hb57).2.2.1 (by omega)
    go_wp2_with fail
    refine hQ1.mono ?_
    rintro e w8 ⟨rfl, hb8⟩
    clear hQ1
    have hb58 := bl2 hb57 hb8
    have hl2 := al w8 (.cells #[.int .i64 2] 3)
    have hC1 := digCmp 30 1 (.slice y6 l6 c6) (.slice (some ⟨w8.heap.size, 0, none⟩) 1 1) M 2 _ (HD.out _ (bl2 hb58 hl2)).2.1 (isD_lit w8 2 (by decide) (by decide)) (by omega)
    obtain ⟨cc, hcc⟩ : ∃ c, cmpN M 2 = c := ⟨_, rfl⟩
    rw [hcc] at hC1
    have hc0 : cc < 0 := by
      rw [← hcc]
      unfold cmpN
      rw [if_pos hM2]
      decide
    clear hcc hM2
    go_wp2_with fail
    refine hC1.mono ?_
    rintro e w9 ⟨rfl, hb9⟩
    have HF := show Hid (Below w.heap.size w w9) from (HD.out w9 (bl2 hb58 (bl2 hl2 hb9))).2.2.2.2.2.2
    clear hC1 hb57 hb58 hb8 hl2 hb9 HD
    go_wp2_with fail
    go_ret
    exact ⟨rfl, HF.out⟩
  · have hN := nInverse_any x y cx cy s t w5 i1.2.2.2.2.1 i1.2.2.2.2.2.1 hs1 ht1 (by rw [HAM.out.2]; omega)
    rw [HAM.out.1, HAM.out.2] at hN
    clear i1
    by_cases hG1 : G = 1
    · go_wp2_with fail
      refine hN.mono ?_
      intro e w7 hd
      unfold InvOk at hd
      rw [if_pos (by rw [HGe.out]; exact hG1)] at hd
      obtain ⟨K, hd, hKM, hKA⟩ := hd
      obtain ⟨S2, z2, k2, rfl, n2, hb57⟩ := numOk_ex hd
      clear hN hd
      have hQ1 := lnSameS 30 G z1 k1 (.slice y7 l7 c7) S1 w7 (HD.out w7 hb57).2.2.2.1 (HD.out w7 hb57).2.2.1 (by omega)
      go_wp2_with fail
      refine hQ1.mono ?_
      rintro e w8 ⟨rfl, hb8⟩
      clear hQ1
      have hb58 := bl2 hb57 hb8
      have hl2 := al w8 (.cells #[.int .i64 2] 3)
      have hC1 := digCmp 30 1 (.slice y6 l6 c6) (.slice (some ⟨w8.heap.size, 0, none⟩) 1 1) M 2 _ (HD.out _ (bl2 hb58 hl2)).2.1 (isD_lit w8 2 (by decide) (by decide)) (by omega)
      obtain ⟨cc, hcc⟩ : ∃ c, cmpN M 2 = c := ⟨_, rfl⟩
      rw [hcc] at hC1
      have hc0 : ¬ cc < 0 := by
        rw [← hcc]
        unfold cmpN
        rw [if_neg hM2]
        split <;> decide
      clear hcc
      go_wp2_with fail
      refine hC1.mono ?_
      rintro e w9 ⟨rfl, hb9⟩
      clear hC1
      have hb59 := bl2 hb58 (bl2 hl2 hb9)
      have hl3 := al w9 (.cells #[.int .i64 1] 3)
      have hC2 := digCmp 30 1 (.slice y7 l7 c7) (.slice (some ⟨w9.heap.size, 0, none⟩) 1 1) G 1 _ (HD.out _ (bl2 hb59 hl3)).2.2.1 (isD_lit w9 1 (by decide) (by decide)) (by omega)
      rw [hG1, show cmpN 1 1 = 0 from rfl] at hC2
      go_wp2_with fail
      refine hC2.mono ?_
      rintro e w10 ⟨rfl, hb10⟩
      clear hC2
      have hb510 := bl2 hb59 (bl2 hl3 hb10)
      have hb710 : Below w7.heap.size w7 w10 := bl2 hb8 (bl2 hl2 (bl2 hb9 (bl2 hl3 hb10)))
      have HS2 := show Hid (∀ u, Below w10.heap.size w10 u → NumAt u (.slice z2 S2.size k2) S2 K) from fun u hu => n2.later (bl2 hb710 hu)
      have hSz : S2.size ≤ 30 := numS_len n2.2 (Nat.lt_trans hKM (HD.out w10 hb510).2.1.lt)
      have HE := show Hid (∀ u, Below w10.heap.size w10 u → IsD 30 u (.slice y5 l5 c5) A ∧ IsD 30 u (.slice y6 l6 c6) M ∧ Below w.heap.size w u) from fun u hu => ⟨(HD.out u (bl2 hb510 hu)).1, (HD.out u (bl2 hb510 hu)).2.1, (HD.out u (bl2 hb510 hu)).2.2.2.2.2.2⟩
      clear HD n2 hb57 hb8 hb58 hl2 hb9 hb59 hl3 hb10 hb510 hb710
      have hO3 := digOf z2 k2 S2 w10 (HS2.out w10 (Below.refl _ _)).1 (by omega)
      rw [(HS2.out w10 (Below.refl _ _)).2.2] at hO3
      go_wp2_with fail
      refine hO3.mono ?_
      rintro e w11 ⟨⟨v11, rfl, h11⟩, hb11⟩
      clear hO3
      have hMu := digMul 30 30 v11 (.slice y5 l5 c5) K A w11 (h11.more hSz) (HE.out w11 hb11).1 (by omega) (by omega)
      go_wp2_with fail
      refine hMu.mono ?_
      rintro e w12 ⟨⟨v12, rfl, h12⟩, hb12⟩
      clear hMu
      have hb102 := bl2 hb11 hb12
      have hDv := digDiv 60 30 v12 (.slice y6 l6 c6) (K * A) M w12 h12 (HE.out w12 hb102).2.1 (by omega) (by omega) (by omega)
      rw [] at hDv
      go_wp2_with fail
      refine hDv.mono ?_
      rintro e w13 ⟨v13, v14, rfl, _, h14, hb13⟩
      clear hDv
      rw [hKA] at h14
      have hb103 := bl2 hb102 hb13
      have hO4 := digOf z2 k2 S2 w13 (HS2.out w13 hb103).1 (by omega)
      rw [(HS2.out w10 (Below.refl _ _)).2.2] at hO4
      go_wp2_with fail
      refine hO4.mono ?_
      rintro e w14 ⟨⟨v15, rfl, h15⟩, hb14⟩
      clear hO4
      have hb104 := bl2 hb103 hb14
      have hC3 := digCmp 30 30 v15 (.slice y6 l6 c6) K M w14 (h15.more hSz) (HE.out w14 hb104).2.1 (by omega)
      have hc3 : cmpN K M = -1 := by unfold cmpN; rw [if_pos hKM]
      rw [hc3] at hC3
      go_wp2_with fail
      refine hC3.mono ?_
      rintro e w15 ⟨rfl, hb15⟩
      clear hC3 hc3
      have hl4 := al w15 (.cells #[.int .i64 1] 3)
      have hC4 := digCmp 30 1 v14 (.slice (some ⟨w15.heap.size, 0, none⟩) 1 1) 1 1 _ (h14.later (bl2 hb14 (bl2 hb15 hl4))) (isD_lit w15 1 (by decide) (by decide)) (by omega)
      rw [show cmpN 1 1 = 0 from rfl] at hC4
      have hb105 := bl2 hb104 (bl2 hb15 hl4)
      clear h11 h12 h14 h15 hb11 hb12 hb13 hb14 hb15 hl4 hb102 hb103 hb104 hKM hKA hM2 hSz
      have hsz2 : S2.size = 0 ∨ S2.size ≠ 0 := by omega
      rcases hsz2 with hsz0 | hsz0
      · have hI0 : ((S2.size : Int) == 0) = true := beq_iff_eq.2 (by omega)
        go_wp2_with fail
        refine hC4.mono ?_
        rintro e w16 ⟨rfl, hb16⟩
        have HF := show Hid (Below w.heap.size w w16) from (HE.out w16 (bl2 hb105 hb16)).2.2
        clear hC4 hb105 hb16 HE HS2
        go_wp2_with fail
        go_ret
        exact ⟨rfl, HF.out⟩
      · have hI0 : ((S2.size : Int) == 0) = false := beq_eq_false_iff_ne.2 (by omega)
        have hI1 : (0 : Int) < (S2.size : Int) := by omega
        have hbf := bare_first (HS2.out w10 (Below.refl _ _)).2.1 hsz0
        obtain ⟨bz, hbz⟩ : ∃ b, byte S2 0 = b := ⟨_, rfl⟩
        rw [hbz] at hbf
        have hbn : ((bz : Int) != 0) = true := by simp; omega
        obtain ⟨bb, oo, rfl, _, _⟩ := IsBytes.cellAt (HS2.out w10 (Below.refl _ _)).1 (i := 0) (by omega)
        go_wp2_with fail
        refine hC4.mono ?_
        rintro e w16 ⟨rfl, hb16⟩
        obtain ⟨bb2, oo2, he, _, gx⟩ := IsBytes.cellAt (HS2.out w16 (bl2 hb105 hb16)).1 (i := 0) (by omega)
        simp only [Option.some.injEq, Addr.mk.injEq, and_true] at he
        obtain ⟨rfl, rfl⟩ := he
        rw [hbz, Nat.add_zero] at gx
        have HF := show Hid (Below w.heap.size w w16) from (HE.out w16 (bl2 hb105 hb16)).2.2
        clear hC4 hb105 hb16 HE HS2 hbz hsz0 hbf
        go_wp2_with fail
        go_ret
        exact ⟨rfl, HF.out⟩
    · go_wp2_with fail
      refine hN.mono ?_
      intro e w7 hd
      unfold InvOk at hd
      rw [if_neg (by rw [HGe.out]; exact hG1)] at hd
      obtain ⟨rfl, hb57⟩ := hd
      clear hN
      have hQ1 := lnSameS 30 G z1 k1 (.slice y7 l7 c7) S1 w7 (HD.out w7 hb57).2.2.2.1 (HD.out w7 hb57).2.2.1 (by omega)
      go_wp2_with fail
      refine hQ1.mono ?_
      rintro e w8 ⟨rfl, hb8⟩
      clear hQ1
      have hb58 := bl2 hb57 hb8
      have hl2 := al w8 (.cells #[.int .i64 2] 3)
      have hC1 := digCmp 30 1 (.slice y6 l6 c6) (.slice (some ⟨w8.heap.size, 0, none⟩) 1 1) M 2 _ (HD.out _ (bl2 hb58 hl2)).2.1 (isD_lit w8 2 (by decide) (by decide)) (by omega)
      obtain ⟨cc, hcc⟩ : ∃ c, cmpN M 2 = c := ⟨_, rfl⟩
      rw [hcc] at hC1
      have hc0 : ¬ cc < 0 := by
        rw [← hcc]
        unfold cmpN
        rw [if_neg hM2]
        split <;> decide
      clear hcc hM2
      go_wp2_with fail
      refine hC1.mono ?_
      rintro e w9 ⟨rfl, hb9⟩
      clear hC1
      have hb59 := bl2 hb58 (bl2 hl2 hb9)
      have hl3 := al w9 (.cells #[.int .i64 1] 3)
      have hC2 := digCmp 30 1 (.slice y7 l7 c7) (.slice (some ⟨w9.heap.size, 0, none⟩) 1 1) G 1 _ (HD.out _ (bl2 hb59 hl3)).2.2.1 (isD_lit w9 1 (by decide) (by decide)) (by omega)
      obtain ⟨cd, hcd⟩ : ∃ c, cmpN G 1 = c := ⟨_, rfl⟩
      rw [hcd] at hC2
      have hcn : (cd != 0) = true := by
        rw [← hcd]
        unfold cmpN
        by_cases h1 : G < 1
        · rw [if_pos h1]
          decide
        · rw [if_neg h1, if_pos (by omega)]
          decide
      clear hcd hG1
      go_wp2_with fail
      refine hC2.mono ?_
      rintro e w10 ⟨rfl, hb10⟩
      have HF := show Hid (Below w.heap.size w w10) from (HD.out w10 (bl2 hb59 (bl2 hl3 hb10))).2.2.2.2.2.2
      clear hC2 HD hb57 hb8 hb58 hl2 hb9 hb59 hl3 hb10
      go_wp2_with fail
      go_ret
      exact ⟨rfl, HF.out⟩
end Go.Proofs.Ythfgbcpppamboaa
